import PyProof.Rows.All
import Wide.All
import OpenK.AllK
import Wide.FinOn
import PyProof.ReprRoads
import HandS.Base
import HandS.Call
import HandS.List
import HandS.Comp
import HandS.Ends
import HandS.Words
import HandS.Wide
import HandS.WideBits
import HandS.IsInst
import HandS.Defaults
import HandS.Flow
import HandS.Walk
import HandS.Codes
import HandS.Conv
import HandS.ForMost
import HandS.TupAny
import HandS.TupLe
import HandS.Dict
import HandS.SortInts
import KE.LtData
import KE.KSortAsk
import PyProof.Rows.InDataRows
import KE.KxField
import KE.KRevSl
import HandS.Text
import PyProof.Draws
import PyProof.EnumMake
import HandS.Set
import HandS.SetFor
import HandS.Strs
import HandS.FStr
import PySem.Challenge.RW_howeverwide_k43_whole_lots_reached
import KE.KStateDown
import Lean
import HandS.Head0
import HandS.Head1
import HandS.Head2
import HandS.HeadEnd
import HandS.HeadHook1
import HandS.HeadHook2
set_option Elab.async false
set_option linter.all false
set_option maxRecDepth 100000
set_option maxHeartbeats 4000000
/-! A layer of ours over HandS: defs whose runs know that no repr stands around them (so that repr of lists may be shown), calls by keywords alone, repr of data, powers. -/
namespace Hw
open PySem PySem.Spec PyProof.Rows L2

/-- no repr is under way -/
abbrev Gd (A : Around) : Prop := A.guards = some []

section
variable (P : Program) (w : World) (K : PySem.W.Frag) (mg : Str → Option Value) (base : Heap) (CX : CXT)
/-- a def's promise where no repr is under way -/
structure FnG (k : Nat) (f : Addr) (fd : FuncData) (ps : List Str) (sp : Sp) : Prop where
  arity : ∀ vs H Q E, sp vs H Q E → vs.length = ps.length
  go : ∀ (A : Around) (outer : List Env) (s : Shared) (H : Hp) (args : Args) (us : List Value) (vs : List V) (Q : VK) (E : XK),
    Gd A → Room k A → Env0 P w K mg base A outer s H → BindsTo s fd args (ps.zip us) → Vals vs us → sp vs H Q E → codeAny (model P w) A (.call (.ref f) args) (CR CX outer P w H s Q E) s
end
section
variable {P : Program} {w : World} {K : PySem.W.Frag} {mg : Str → Option Value} {base : Heap} {CX : CXT}
theorem FnG.up {j k : Nat} {f : Addr} {fd : FuncData} {ps : List Str} {sp : Sp} (F : FnG P w K mg base CX j f fd ps sp) (h : j ≤ k) : FnG P w K mg base CX k f fd ps sp :=
  ⟨F.arity, fun A outer s H args us vs Q E g r => F.go A outer s H args us vs Q E g (r.mono h)⟩
theorem FnG.weak {k : Nat} {f : Addr} {fd : FuncData} {ps : List Str} {sp sp' : Sp} (F : FnG P w K mg base CX k f fd ps sp) (h : ∀ vs H Q E, sp' vs H Q E → sp vs H Q E) : FnG P w K mg base CX k f fd ps sp' :=
  ⟨fun vs H Q E q => F.arity vs H Q E (h _ _ _ _ q), fun A outer s H args us vs Q E g r e b v q => F.go A outer s H args us vs Q E g r e b v (h _ _ _ _ q)⟩
theorem FnG.ofOk {k : Nat} {f : Addr} {fd : FuncData} {ps : List Str} {sp : Sp} (F : FnOk P w K mg base CX k f fd ps sp) : FnG P w K mg base CX k f fd ps sp :=
  ⟨F.len, fun A outer s H args us vs Q E _ => F.run A outer s H args us vs Q E⟩

/-- a def of the text without defaults -/
abbrev DefAt (K : PySem.W.Frag) (x : Str) (st : Stmt) (f : Addr) (fd : FuncData) : Prop := FunD K x x (defArgs st) (defBody st) (defScope st) [] [] f fd

/-- the rule of a def's body, where no repr is under way -/
theorem bodyG {x qual : Str} {params : Arguments} {body : List Stmt} {scope : Scope} {dvs : List V} {kws : List (Str × V)} {f : Addr} {fd : FuncData} {N ps : List Str} {k : Nat} {sp : Sp}
    (F : FunD K x qual params body scope dvs kws f fd) (S : FnScope N ps scope) (ar : ∀ vs H Q E, sp vs H Q E → vs.length = ps.length)
    (hb : ∀ (cdv : Value) (A : Around) (outer : List Env) (s : Shared) (H : Hp) (vs : List V) (Q : VK) (E : XK), Gd (A.deeper (envOfC qual scope s.heap.objs.size f cdv)) → Room k (A.deeper (envOfC qual scope s.heap.objs.size f cdv)) → sp vs H Q E →
      ∃ t, PSs (cxOf CX P w K mg base N qual scope f cdv A outer s H E) body t ∧ t { nx := fun _ H' => Q .non H', rt := Q } (start N vs) H) : FnG P w K mg base CX (k + 1) f fd ps sp := by
  refine ⟨ar, ?_⟩
  intro A outer s H args us vs Q E gd room env bind rel want
  obtain ⟨oc, od, dV, kV, doc, pm, an, cdv, ct, osl, rfl, look, codeIs, -, -⟩ := F.ex
  have inK : K.In s.heap := env.mod.kin.keeps fun b o q => (env.bs b o q).1
  have noLim : s.heap.NoLimit := env.mod.nolimit.keeps fun b o q => (env.bs b o q).1
  have kinds : ∀ y ∈ ps.zip us, scope.names.lookup y.1 = some .local ∨ (scope.names.lookup y.1 = some .cell ∧ ((cellsFrom (s.heap.objs.size + 1) scope.names []).lookup y.1).isSome = true) := by
    rintro ⟨n, v⟩ hy
    cases S.par n (List.of_mem_zip hy).1 with
    | inl q => exact Or.inl q
    | inr q => exact Or.inr ⟨q, PySem.W.cellsFrom_some _ _ _ (Or.inl q)⟩
  refine codeAny_call_function room.depth (inK _ _ look) rfl S.co S.gen rfl (PySem.W.codeRec_of inK codeIs) (bind _ _ _ _ ?_)
  refine wpAny_newFunctionEnv_cells S.kind kinds ?_
  rintro env' rfl s1 x1
  refine ⟨noLim.keeps x1.toInCall.keep, codeAny_func ?_⟩
  obtain ⟨t, run, done⟩ := hb cdv A outer s H vs Q E gd (room.deeper _) want
  have I := inv_start (CX := CX) (E := E) S room.hd env (ar _ _ _ _ want) rel x1
  refine wpAny_mono (run.run [] s1 (start N vs) H _ I done) ?_ (fun _ _ q => q)
  intro fl s' after
  cases fl with
  | ret u =>
    obtain ⟨v, σ', H', J, rv, q⟩ := after
    exact ⟨v, H', J.os, J.bare, J.base, J.hok, rv, q⟩
  | next =>
    obtain ⟨σ', H', J, q⟩ := after
    exact ⟨V.non, H', J.os, J.bare, J.base, J.hok, rfl, q⟩
  | brk => exact (after.choose_spec.choose_spec.2 : False).elim
  | cont => exact (after.choose_spec.choose_spec.2 : False).elim
/-- the same for a def that lets nothing out -/
theorem bodyG0 {x : Str} {st : Stmt} {f : Addr} {fd : FuncData} {N ps : List Str} {k : Nat} {sp : Sp}
    (F : DefAt K x st f fd) (S : FnScope N ps (defScope st)) (ar : ∀ vs H Q E, sp vs H Q E → vs.length = ps.length)
    (hb : ∀ (cdv : Value) (A : Around) (outer : List Env) (s : Shared) (H : Hp) (vs : List V) (Q : VK) (E : XK), Gd (A.deeper (envOfC x (defScope st) s.heap.objs.size f cdv)) → Room k (A.deeper (envOfC x (defScope st) s.heap.objs.size f cdv)) → sp vs H Q E →
      ∃ t, PSs (cxOf CX0 P w K mg base N x (defScope st) f cdv A outer s H E).nox (defBody st) t ∧ t { nx := fun _ H' => Q .non H', rt := Q } (start N vs) H) : FnG P w K mg base CX0 (k + 1) f fd ps sp :=
  bodyG F S ar fun cdv A outer s H vs Q E gd room want => by
    obtain ⟨t, a, b⟩ := hb cdv A outer s H vs Q E gd room want
    exact ⟨t, a.nox, b⟩
end

section
variable {X : Cx} {CX : CXT} {k : Nat} {f : Addr} {fd : FuncData} {ps ks : List Str} {sp : Sp} {dvs : List V} {ds : List Value} {E : XK} {x : Str} {p pos : Pos} {e : Expr} {es : List Expr} {kws : List Keyword} {t tk : TA}
theorem runG {pins : List (Addr × Obj)} {σ : L2.St} {H : Hp} {s : Shared} {Q : VK} {us0 : List Value} {kw : List (Str × Value)} {us : List Value} {vs : List V} (F : FnG X.prog X.w X.K X.mg X.base CX k f fd ps sp) (gd : Gd X.A) (hr : Room k X.A) (hx : Passes CX X E)
    (I : Inv X pins σ H s) (hb : BindsTo s fd ⟨us0, kw⟩ (ps.zip us)) (r : Vals vs us) (h : sp vs H Q E) : wpAny (model X.prog X.w) X.A (call (.ref f) us0 kw) (EP X pins σ Q) X.xe s := by
  refine wpAny_call (codeAny_mono (F.go X.A X.stack s H ⟨us0, kw⟩ us vs Q E gd hr I.env0 hb r h) ?_)
  intro r s' q
  match r, q with
  | .error e, q => exact hx pins σ H s e s' I q
  | .ok (.ret u), q => exact I.after q
  | .ok .next, q => exact (show False from q).elim
  | .ok .brk, q => exact (show False from q).elim
  | .ok .cont, q => exact (show False from q).elim
/-- f(e, ..) -/
theorem pe_g (F : FnG X.prog X.w X.K X.mg X.base CX k f fd ps sp) (gd : Gd X.A) (hr : Room k X.A) (hg : Gl X x) (hm : X.mg x = some (.ref f)) (hk : PySem.W.keepIn X.K (.ref f) = true) (hb : Binds X.K fd ps ds) (hd : Vals dvs ds) (hx : Passes CX X E)
    (ha : PA X (e :: es) t) (hdb : (x == ("__debug__" : Str)) = false := by decide) (he : starEach (e :: es) X.env = (false, eval e X.env) :: starEach es X.env := by rfl) (hpl : (backTo pos (starEach es X.env)).any (·.1) = false := by rfl) :
    PE X (.Call (.Name x p) (e :: es) [] pos) (tCall sp dvs E t) := by
  constructor
  intro pins s σ H Q I h
  apply wpAny_Call_Name_kw
  refine ld_glob I hg hm (PySem.W.callWith_K (h₀ := X.base) I.ok.mod.kin hk (thn (ha.run pos pins s σ H _ I h) ?_) he hpl) hdb
  rintro us s1 ⟨vs, H1, I1, r, q⟩
  have r2 : Vals (vs ++ dvs) (us ++ ds) := r.append hd
  exact ⟨I1.kIn, runG F gd hr hx I1 (hb s1 us I1.kIn (r2.length.symm.trans (F.arity _ _ _ _ q))) r2 q⟩
/-- f() -/
theorem pe_g0 (F : FnG X.prog X.w X.K X.mg X.base CX k f fd ps sp) (gd : Gd X.A) (hr : Room k X.A) (hg : Gl X x) (hm : X.mg x = some (.ref f)) (hk : PySem.W.keepIn X.K (.ref f) = true) (hb : Binds X.K fd ps ds) (hd : Vals dvs ds) (hx : Passes CX X E)
    (hdb : (x == ("__debug__" : Str)) = false := by decide) : PE X (.Call (.Name x p) [] [] pos) (tCall sp dvs E tNil) := by
  constructor
  intro pins s σ H Q I h
  apply wpAny_Call_Name_kw
  refine ld_glob I hg hm (PySem.W.callWith_K0 I.kIn hk ?_) hdb
  have r2 : Vals ([] ++ dvs) ([] ++ ds) := Vals.append .nil hd
  exact runG (us0 := []) F gd hr hx I (hb s [] I.kIn (r2.length.symm.trans (F.arity _ _ _ _ h))) r2 h
/-- how a call by keywords alone binds: the keywords ks, brought into the parameters' order by g (by gV the values) -/
structure KwB (fd : FuncData) (ps ks : List Str) (g : List Value → List Value) (gV : List V → List V) : Prop where
  to : ∀ (s : Shared) (ws : List Value), ws.length = ks.length → BindsTo s fd ⟨[], ks.zip ws⟩ (ps.zip (g ws))
  rel : ∀ {zs : List V} {ws : List Value}, zs.length = ks.length → Vals zs ws → Vals (gV zs) (g ws)
def tCallW (sp : Sp) (n : Nat) (gV : List V → List V) (E : XK) (tk : TA) : TE := fun σ H Q => tk σ H fun zs H1 => zs.length = n ∧ sp (gV zs) H1 Q E
/-- f(k = v, ..) -/
theorem pe_gk {g : List Value → List Value} {gV : List V → List V} (F : FnG X.prog X.w X.K X.mg X.base CX k f fd ps sp) (gd : Gd X.A) (hr : Room k X.A) (hg : Gl X x) (hm : X.mg x = some (.ref f)) (hk : PySem.W.keepIn X.K (.ref f) = true) (hb : KwB fd ps ks g gV) (hx : Passes CX X E)
    (hkw : PK X kws tk) (hall : (backToKw pos (keywordEach kws X.env)).all (·.1.isSome) = true := by rfl) (hks : (backToKw pos (keywordEach kws X.env)).filterMap (·.1) = ks := by rfl) (hdb : (x == ("__debug__" : Str)) = false := by decide)
    (hpl : ((backTo pos (starEach [] X.env)).any (·.1) || (backToKw pos (keywordEach kws X.env)).any (·.1.isNone)) = false := by rfl) :
    PE X (.Call (.Name x p) [] kws pos) (tCallW sp ks.length gV E tk) := by
  constructor
  intro pins s σ H Q I h
  apply wpAny_Call_Name_kw
  refine ld_glob I hg hm (PySem.W.callWith_KW0 (h₀ := X.base) I.ok.mod.kin hk hall (thn (hkw.run pos pins s σ H _ I h) ?_) hpl) hdb
  rintro ws s1 ⟨zs, H1, I1, rz, l, q⟩
  rw [hks]
  exact ⟨I1.kIn, runG (us0 := []) F gd hr hx I1 (hb.to s1 ws (rz.length.symm.trans l)) (hb.rel l rz) q⟩
end

/-! ### operators -/
def CPowW (i j : Int) : Prop := 0 ≤ j ∧ (Builtin.Int.intBits i : Int) * j ≤ 2 ^ 27
theorem powW_ok {i : Int} {n j : Nat} (h : i.natAbs < 2 ^ n) (hj : n * j ≤ 134217728) : CPowW i (j : Int) := by
  have b := PyProof.Rows.intBits_le h
  refine ⟨Int.natCast_nonneg _, ?_⟩
  have e : (2 : Int) ^ 27 = 134217728 := by decide
  rw [e, ← Int.natCast_mul]
  have c : Builtin.Int.intBits i * j ≤ n * j := Nat.mul_le_mul_right j b
  omega
section
variable {X : Cx}
theorem op_powW : OpR X (binaryOp .Pow) (rI CPowW fun i j => .int (i ^ j.toNat)) := opI fun _ _ _ _ _ _ _ hc q => pow_int hc.1 hc.2 q
end
/-! ### data that may be shown and compared -/
mutual
/-- data without dicts, of numbers of at most 38 figures and plain texts -/
def okD : PyData → Bool
  | .none | .bool _ => true
  | .int i => decide (i.natAbs < 10 ^ 38)
  | .str x => PyData.strOk x && x.cps.toList.all fun c => decide (c < 16 ^ 8)
  | .list xs | .tuple xs => okDs xs
  | .dict _ => false
def okDs : List PyData → Bool
  | [] => true
  | x :: xs => okD x && okDs xs
end
theorem int38 {i : Int} (h : i.natAbs < 10 ^ 38) : i.natAbs.log2 < 1920 :=
  Nat.lt_of_lt_of_le (PySem.Flt.log2_lt_of (k := 127) (by decide) (Nat.lt_of_lt_of_le h (by decide +kernel))) (by decide)
theorem short38 {i : Int} (h : i.natAbs < 10 ^ 38) : (PyData.shown (.int i)).length ≤ 40 := by
  have e := int_text_length_le10 (k := 38) (by decide) h
  show (Str.ofString (toString i)).length ≤ 40
  rw [PySem.ofString_length]
  omega
mutual
theorem okD_all : ∀ d : PyData, okD d = true → d.canLay0 = true ∧ d.showable = true ∧ d.hasDict = false ∧ d.leavesShort 40 = true
  | .none, _ => ⟨by simp only [PyData.canLay0], by simp only [PyData.showable], by simp only [PyData.hasDict], by simp only [PyData.leavesShort]⟩
  | .bool _, _ => ⟨by simp only [PyData.canLay0], by simp only [PyData.showable], by simp only [PyData.hasDict], by simp only [PyData.leavesShort]⟩
  | .int i, h => by
    have h' : i.natAbs < 10 ^ 38 := by simpa only [okD, decide_eq_true_eq] using h
    exact ⟨by simp only [PyData.canLay0], by simp only [PyData.showable, decide_eq_true_eq]; exact int38 h', by simp only [PyData.hasDict], by simp only [PyData.leavesShort, decide_eq_true_eq]; exact short38 h'⟩
  | .str x, h => by
    have h' : PyData.strOk x = true ∧ (x.cps.toList.all fun c => decide (c < 16 ^ 8)) = true := by simpa only [okD, Bool.and_eq_true] using h
    exact ⟨by simp only [PyData.canLay0]; exact h'.1, by simp only [PyData.showable], by simp only [PyData.hasDict], by simp only [PyData.leavesShort]; exact h'.2⟩
  | .list xs, h => by
    obtain ⟨a, b, c, d⟩ := okDs_all xs (by simpa only [okD] using h)
    exact ⟨by simp only [PyData.canLay0]; exact a, by simp only [PyData.showable]; exact b, by simp only [PyData.hasDict]; exact c, by simp only [PyData.leavesShort]; exact d⟩
  | .tuple xs, h => by
    obtain ⟨a, b, c, d⟩ := okDs_all xs (by simpa only [okD] using h)
    exact ⟨by simp only [PyData.canLay0]; exact a, by simp only [PyData.showable]; exact b, by simp only [PyData.hasDict]; exact c, by simp only [PyData.leavesShort]; exact d⟩
  | .dict _, h => by simp only [okD] at h; cases h
theorem okDs_all : ∀ ds : List PyData, okDs ds = true → PyData.canLayAll0 ds = true ∧ PyData.showableAll ds = true ∧ PyData.hasDictAll ds = false ∧ PyData.leavesShortAll 40 ds = true
  | [], _ => ⟨by simp only [PyData.canLayAll0], by simp only [PyData.showableAll], by simp only [PyData.hasDictAll], by simp only [PyData.leavesShortAll]⟩
  | x :: xs, h => by
    have h' : okD x = true ∧ okDs xs = true := by simpa only [okDs, Bool.and_eq_true] using h
    obtain ⟨a, b, c, d⟩ := okD_all x h'.1
    obtain ⟨a2, b2, c2, d2⟩ := okDs_all xs h'.2
    exact ⟨by simp only [PyData.canLayAll0, a, a2, Bool.and_self], by simp only [PyData.showableAll, b, b2, Bool.and_self], by simp only [PyData.hasDictAll, c, c2, Bool.or_self], by simp only [PyData.leavesShortAll, d, d2, Bool.and_self]⟩
end
structure Nice (d : PyData) : Prop where
  ok : okD d = true
  deep : d.depth ≤ 60
  small : d.bulk ≤ 262144
theorem Nice.shaped {d : PyData} (n : Nice d) : SeqAt.shaped d = true := by
  show (d.canLay0 && decide (d.depth ≤ 64)) = true
  rw [(okD_all d n.ok).1, decide_eq_true (show d.depth ≤ 64 by have := n.deep; omega)]
  rfl
theorem Nice.fits {d : PyData} (n : Nice d) : d.shown.length ≤ sizeLine := by
  have h := PyData.shown_le_bulk 40 (by decide) d (okD_all d n.ok).2.2.2
  have k := n.small
  rw [sizeLine_eq]
  omega
theorem Nice.refl {d : PyData} (n : Nice d) : PyData.eqv d d = true := SeqAt.eqv_refl d (okD_all d n.ok).1
theorem Nice.int {i : Int} (h : i.natAbs < 10 ^ 38) : Nice (.int i) := ⟨by simp only [okD, decide_eq_true_eq]; exact h, by simp only [PyData.depth]; omega, by simp only [PyData.bulk]; omega⟩
theorem okDs_map {α : Type} (f : α → PyData) : ∀ l : List α, (∀ x ∈ l, okD (f x) = true) → okDs (l.map f) = true
  | [], _ => by simp only [List.map_nil, okDs]
  | x :: r, h => by
    simp only [List.map_cons, okDs, Bool.and_eq_true]
    exact ⟨h x (List.mem_cons_self ..), okDs_map f r fun y hy => h y (List.mem_cons_of_mem _ hy)⟩
theorem depthAll_le {n : Nat} : ∀ l : List PyData, (∀ x ∈ l, x.depth ≤ n) → PyData.depthAll l ≤ n
  | [], _ => by simp only [PyData.depthAll]; omega
  | x :: r, h => by
    have h1 := h x (List.mem_cons_self ..)
    have h2 := depthAll_le r fun y hy => h y (List.mem_cons_of_mem _ hy)
    simp only [PyData.depthAll]
    omega
theorem bulkAll_le {n : Nat} : ∀ l : List PyData, (∀ x ∈ l, x.bulk ≤ n) → PyData.bulkAll l ≤ l.length * (n + 1)
  | [], _ => by simp only [PyData.bulkAll]; omega
  | x :: r, h => by
    have h1 := h x (List.mem_cons_self ..)
    have h2 := bulkAll_le r fun y hy => h y (List.mem_cons_of_mem _ hy)
    simp only [PyData.bulkAll, List.length_cons]
    rw [Nat.succ_mul]
    omega
theorem Nice.listInt {l : List Int} (h : ∀ x ∈ l, x.natAbs < 10 ^ 38) (hl : l.length ≤ 100000) : Nice (.list (l.map .int)) := by
  refine ⟨?_, ?_, ?_⟩
  · simp only [okD]
    exact okDs_map _ l fun x hx => (Nice.int (h x hx)).ok
  · have := depthAll_le (n := 0) (l.map PyData.int) fun x hx => by
      obtain ⟨i, _, rfl⟩ := List.mem_map.mp hx
      simp only [PyData.depth]; omega
    simp only [PyData.depth]; omega
  · have := bulkAll_le (n := 0) (l.map PyData.int) fun x hx => by
      obtain ⟨i, _, rfl⟩ := List.mem_map.mp hx
      simp only [PyData.bulk]; omega
    simp only [PyData.bulk]
    rw [List.length_map] at this
    omega
theorem dps_int {K : PySem.W.Frag} {H : Hp} : ∀ l : List Int, DpAll K H (l.map V.int) (l.map PyData.int)
  | [] => .nil
  | x :: r => .cons (.int x) (dps_int r)
theorem dp_int {K : PySem.W.Frag} {H : Hp} {a : Addr} {l : List Int} (h : SqL K H a (l.map V.int)) : Dp K H (.ref a) (.list (l.map PyData.int)) := .lst h (dps_int l)
section
variable {X : Cx}
/-- repr of data: its text -/
def rRepr (K : PySem.W.Frag) : List V → Hp → VK → Prop := fun xs H Q => ∃ (x : V) (d : PyData), xs = [x] ∧ Dp K H x d ∧ Nice d ∧ Q (.str d.shown) H
theorem call_reprD (gd : Gd X.A) (hu : X.A.units + 64 < cLine) : CallR X (.builtin "repr") (rRepr X.K) := by
  intro pins s σ H xs us Q I r h
  obtain ⟨x, d, rfl, dp, nice, q⟩ := h
  obtain ⟨_, sh, nd, _⟩ := okD_all d nice.ok
  have sz := nice.fits
  have dep := nice.deep
  obtain ⟨u, rfl, ru⟩ := vals1 r
  obtain ⟨as, rd⟩ := Dp.reads I d x u dp ru
  have hsm : d.hasDict = true → sysModules ∉ as := fun e => by rw [nd] at e; cases e
  cases dp with
  | non => cases (show u = Value.none from ru); exact PySem.P.repr_of_none ⟨.str _, H, I.tok _, ⟨_, rfl⟩, q⟩
  | bl b => cases (show u = Value.bool b from ru); exact PySem.P.repr_of_bool ⟨.str _, H, I.tok _, ⟨_, rfl⟩, by simpa only [PyData.shown] using q⟩
  | int i => obtain ⟨t, rfl⟩ := ru; exact PySem.P.repr_of_int (by simpa only [PyData.showable, decide_eq_true_eq] using sh) ⟨.str _, H, I.tok _, ⟨_, rfl⟩, by simpa only [PyData.shown] using q⟩
  | str z => obtain ⟨t, rfl⟩ := ru; exact PySem.P.repr_of_str ⟨.str _, H, I.tok _, ⟨_, rfl⟩, by simpa only [PyData.shown] using q⟩ (by simpa only [PyData.shown] using sz)
  | @lst a xs ds e1 e2 =>
    cases (show u = Value.ref a from ru)
    exact repr_of_reads' rd sh hsm gd (by omega) (fun _ _ e => e) (fun h' u tk hk => ⟨.str _, H, I.kept hk, ⟨_, rfl⟩, q⟩) sz
  | @tup a xs ds e1 e2 =>
    cases (show u = Value.ref a from ru)
    exact repr_of_reads' rd sh hsm gd (by omega) (fun _ _ e => e) (fun h' u tk hk => ⟨.str _, H, I.kept hk, ⟨_, rfl⟩, q⟩) sz
end
/-! ### heaps -/
/-- all but what stands at a is as it was -/
def SameX (a : Addr) (H H' : Hp) : Prop := ∀ b o, b ≠ a → H b = some o → H' b = some o
theorem SameX.refl (a : Addr) (H : Hp) : SameX a H H := fun _ _ _ h => h
theorem SameX.of {a : Addr} {H H' : Hp} (e : Same H H') : SameX a H H' := fun b o _ h => e b o h
theorem SameX.trans {a : Addr} {H H1 H2 : Hp} (e : SameX a H H1) (f : SameX a H1 H2) : SameX a H H2 := fun b o n h => f b o n (e b o n h)
theorem SameX.upd {a : Addr} {H : Hp} {o : HO} : SameX a H (upd H a o) := fun b x n h => by rw [upd_ne n]; exact h
/-- what was there before a was made -/
theorem SameX.same {a : Addr} {H0 H H' : Hp} (e : SameX a H H') (s : Same H0 H) (n : H0 a = none) : Same H0 H' := fun b o h => e b o (ne_of_none h n) (s b o h)
theorem same_new' {H : Hp} {p : Addr} {o : HO} (h : H p = none) : Same H (upd H p o) := fun b x e => by
  rw [upd_ne (ne_of_none e h)]
  exact e
/-! ### tests -/
/-- a comprehension without a test keeps each item -/
theorem yes_if {σ : L2.St} {H : Hp} {A B : Hp → Prop} (h : A H) : tYes σ H fun b H3 => if b = true then A H3 else B H3 := by
  show if true = true then A H else B H
  exact iteT h

/-! ### the law's own call -/
section
variable {P : Program} {w : World} {K : PySem.W.Frag} {mg mb : Str → Option Value} {CX : CXT} {k : Nat} {fa a : Addr} {fd : FuncData} {x : Str} {sp : Sp} {st : Shared} {its : List Value} {ns : List Int}
/-- the call over an abstract heap that tracks nothing but (perhaps) the script -/
theorem lawG_at {H : Hp} (inK : K.In st.heap) (globals : st.heap.Ns mainGlobals mg) (blt : st.heap.Ns builtinsNs mb) (bltIs : ∀ x : Str, x ≠ "__name__" → mb x = bootBuiltins x) (noLim : st.heap.NoLimit) (noGen : st.gens = #[])
    (lst : st.heap.get? a = some { cls := .type "list", data := .seq its.toArray }) (room : Room k callerA)
    (F : ∀ base : Heap, K.In base → base.Ns mainGlobals mg → FnG P w K mg base CX k fa fd [x] sp) (binds : ∀ (s : Shared) (u : Value), BindsTo s fd ⟨[u], []⟩ [(x, u)])
    (want : sp [.ref a] H (fun v _ => v = .bl true) fun _ _ _ => False) (noEx : ∀ e s', CX [] H st (fun _ _ _ => False) e s' → False)
    (only : Only H) (held : HOk P w H st.heap) (atA : ∀ b, H b ≠ none → b = a) (notK : H a ≠ none → K.lookup a = none) :
    codeAny (model P w) callerA (.call (.ref fa) ⟨[.ref a], []⟩) (fun r s' => r = .ok (.ret (.bool true)) ∧ OldK st.heap s'.heap ∧ s'.os = st.os ∧ AllBare s'.gens) st := by
  have dicts : ∀ {b : Addr} {m : Str → Option Value}, st.heap.Ns b m → (hidT st.heap H).Ns b m := by
    rintro b m ⟨o, es, ep, q, d, rest⟩
    refine ⟨o, es, ep, hidT_get q ?_, d, rest⟩
    cases z : H b with
    | none => rfl
    | some u =>
      have eb := atA b (by rw [z]; exact Option.some_ne_none u)
      rw [eb, lst] at q
      have eo := Option.some.inj q
      rw [← eo] at d
      exact (nomatch (show Data.seq its.toArray _ = Data.dict es ep from d))
  have baseK : K.In (hidT st.heap H) := by
    intro b o q
    refine hidT_get (inK b o q) ?_
    cases z : H b with
    | none => rfl
    | some u =>
      have ne : H b ≠ none := by rw [z]; exact Option.some_ne_none u
      have eb := atA b ne
      subst eb
      rw [notK ne] at q
      exact nomatch q
  obtain ⟨mc, l1, l2⟩ := noLim
  have env : Env0 P w K mg (hidT st.heap H) callerA [] st H :=
    { frames := rfl, mod := { kin := baseK, glob := dicts globals, blt := ⟨mb, dicts blt, bltIs⟩, nolimit := ⟨mc, dicts l1, l2⟩ }, bs := fun b o q => of_hidT q,
      bsz := Nat.le_of_eq (hidT_size _ _), funs := trivial, frf := fun b z => (nomatch z), hok := held, bare := .of_eq noGen }
  refine codeAny_mono ((F _ baseK (dicts globals)).go callerA [] st H ⟨[.ref a], []⟩ [.ref a] [.ref a] _ _ rfl room env (binds st (.ref a)) (.cons rfl .nil) want) ?_
  intro r s' q
  match r, q with
  | .error e, q => exact (noEx e s' q).elim
  | .ok .next, q => exact (show False from q).elim
  | .ok .brk, q => exact (show False from q).elim
  | .ok .cont, q => exact (show False from q).elim
  | .ok (.ret u), ⟨v, H', eos, bare, un, held', rv, ev⟩ =>
    have ev' : v = .bl true := ev
    subst ev'
    cases (show u = Value.bool true from rv)
    refine ⟨rfl, OldK.of_keep ?_, eos, bare⟩
    intro b o q
    cases z : H b with
    | none => exact un.keep b o q z (fun y => nomatch y) (fun y => nomatch y)
    | some u =>
      obtain y | ⟨ob, xs, y⟩ := only b
      · rw [z] at y
        exact nomatch y
      · have q1 := (held b _ y).1
        have q2 := (held' b _ (un.frzs b ob _ y)).1
        rw [q] at q1
        rw [Option.some.inj q1]
        exact q2
theorem lawG (inK : K.In st.heap) (globals : st.heap.Ns mainGlobals mg) (blt : st.heap.Ns builtinsNs mb) (bltIs : ∀ x : Str, x ≠ "__name__" → mb x = bootBuiltins x) (noLim : st.heap.NoLimit) (noGen : st.gens = #[])
    (lst : st.heap.get? a = some { cls := .type "list", data := .seq its.toArray }) (areInts : IntsAre its ns) (len : ns.length ≤ sizeLine) (room : Room k callerA)
    (F : ∀ base : Heap, K.In base → base.Ns mainGlobals mg → FnG P w K mg base CX k fa fd [x] sp) (binds : ∀ (s : Shared) (u : Value), BindsTo s fd ⟨[u], []⟩ [(x, u)])
    (want : ∀ H : Hp, Only H → SqL K H a (ns.map V.int) → sp [.ref a] H (fun v _ => v = .bl true) fun _ _ _ => False) (noEx : ∀ H e s', CX [] H st (fun _ _ _ => False) e s' → False) :
    codeAny (model P w) callerA (.call (.ref fa) ⟨[.ref a], []⟩) (fun r s' => r = .ok (.ret (.bool true)) ∧ OldK st.heap s'.heap ∧ s'.os = st.os ∧ AllBare s'.gens) st := by
  have rel := vals_ints areInts
  cases z : K.lookup a with
  | some o =>
    have q := inK a o z
    rw [lst] at q
    have eo := Option.some.inj q
    subst eo
    have only : Only (fun _ => none) := fun _ => Or.inl rfl
    have sq : SqL K (fun _ => none) a (ns.map V.int) := Or.inr ⟨_, its.toArray, _, z, rfl, rfl, rfl, by rw [List.size_toArray, areInts.length]; exact len, rel⟩
    exact lawG_at inK globals blt bltIs noLim noGen lst room F binds (want _ only sq) (noEx _) only (fun b u y => nomatch (show none = some u from y)) (fun b y => (y rfl).elim) (fun y => (y rfl).elim)
  | none =>
    let H : Hp := upd (fun _ => none) a (.frz { cls := .type "list", data := .seq its.toArray } (.lst (ns.map V.int)))
    have at1 : H a = some (.frz { cls := .type "list", data := .seq its.toArray } (.lst (ns.map V.int))) := upd_same
    have off : ∀ b, b ≠ a → H b = none := fun b hb => upd_ne hb
    have only : Only H := by
      intro b
      by_cases hb : b = a
      · rw [hb]
        exact Or.inr ⟨_, _, at1⟩
      · exact Or.inl (off b hb)
    have only1 : ∀ b, H b ≠ none → b = a := by
      intro b y
      by_cases hb : b = a
      · exact hb
      · exact (y (off b hb)).elim
    have held : HOk P w H st.heap := by
      intro b u y
      have hb : b = a := only1 b (by rw [y]; exact Option.some_ne_none u)
      subst hb
      rw [at1] at y
      rw [← Option.some.inj y]
      exact ⟨lst, by rw [List.length_map]; exact len, its, _, rel, lst⟩
    exact lawG_at inK globals blt bltIs noLim noGen lst room F binds (want _ only (Or.inl (Or.inr ⟨_, at1⟩))) (noEx _) only held only1 fun _ => z
end
/-- a law: what the head leaves, from the law's promise -/
theorem walkG {l : PySem.W.OpenLaw} {n k : Nat} {q : Program} {loose : List Str} {XP : (Str → Option Value) → Heap → Prop} {YP : World → Heap → Prop} {d : DefRec} {x : Str}
    (most : l.most = some n) (small : n ≤ sizeLine) (plain : d.params.defaults = []) (room : Room k callerA)
    (F : ∀ (w : World) (mg : Str → Option Value) (fa : Addr) (h : Heap), YP w h → h.Ns mainGlobals mg → mg d.name = some (.ref fa) →
      ∃ (K : PySem.W.Frag) (fd : FuncData) (sp : Sp), K.In h ∧ (∀ (s : Shared) (u : Value), BindsTo s fd ⟨[u], []⟩ [(x, u)]) ∧
        (∀ (H : Hp) (a : Addr) (ns : List Int), ns.length ≤ n → Only H → SqL K H a (ns.map V.int) → sp [.ref a] H (fun v _ => v = .bl true) fun _ _ _ => False) ∧
        ∀ base : Heap, K.In base → base.Ns mainGlobals mg → FnG l.prog w K mg base CX0 k fa fd [x] sp) :
    PySem.W.WalkO q loose XP YP l.row.toRowW d [] (fun f vs => PySem.call f vs) := by
  apply Att.attach_call most plain
  intro w s0 s1 mg mb fa o pm cd doc a vs ns G Y _ _ _ gl lst areInts len gens
  obtain ⟨K, fd, sp, inK, binds, want, run⟩ := F w mg fa _ Y G.T.g gl
  exact lawG inK G.T.g G.T.b G.T.builtins G.T.nolimit gens lst areInts (Nat.le_trans len small) room run binds (fun H o s => want H a ns len o s) fun _ _ _ y => y.elim
end Hw

set_option Elab.async false
set_option linter.all false
set_option maxRecDepth 100000
set_option maxHeartbeats 4000000
/-! data that stands in tracked lists, tuples, dicts -/
namespace Hw
open PySem PySem.Spec PyProof.Rows L2
mutual
inductive Dt (H : Hp) : V → PyData → Prop
  | non : Dt H .non .none
  | bl (b : Bool) : Dt H (.bl b) (.bool b)
  | int (i : Int) : Dt H (.int i) (.int i)
  | str (x : Str) : Dt H (.str x) (.str x)
  | lst {a : Addr} {xs : List V} {ds : List PyData} : H a = some (.lst xs) → DtAll H xs ds → Dt H (.ref a) (.list ds)
  | tup {a : Addr} {xs : List V} {ds : List PyData} : H a = some (.tup xs) → DtAll H xs ds → Dt H (.ref a) (.tuple ds)
  | dic {a : Addr} (kvs : List (Str × Int)) : H a = some (.dK (kvs.map fun p => (.inr p.1, .int p.2))) → Dt H (.ref a) (.dict (kvs.map fun p => (.str p.1, .int p.2)))
inductive DtAll (H : Hp) : List V → List PyData → Prop
  | nil : DtAll H [] []
  | cons {v : V} {vs : List V} {d : PyData} {ds : List PyData} : Dt H v d → DtAll H vs ds → DtAll H (v :: vs) (d :: ds)
end
mutual
theorem Dt.same {H H' : Hp} (e : Same H H') : ∀ (d : PyData) (v : V), Dt H v d → Dt H' v d
  | .none, _, h => by cases h; exact .non
  | .bool b, _, h => by cases h; exact .bl b
  | .int i, _, h => by cases h; exact .int i
  | .str x, _, h => by cases h; exact .str x
  | .list ds, _, h => by
    cases h with
    | lst hs ha => exact .lst (e _ _ hs) (DtAll.same e ds _ ha)
  | .tuple ds, _, h => by
    cases h with
    | tup hs ha => exact .tup (e _ _ hs) (DtAll.same e ds _ ha)
  | .dict ds, _, h => by
    cases h with
    | dic kvs hs => exact .dic kvs (e _ _ hs)
theorem DtAll.same {H H' : Hp} (e : Same H H') : ∀ (ds : List PyData) (vs : List V), DtAll H vs ds → DtAll H' vs ds
  | [], _, h => by cases h; exact .nil
  | d :: ds, _, h => by
    cases h with
    | cons h1 h2 => exact .cons (Dt.same e d _ h1) (DtAll.same e ds _ h2)
end
theorem Dt.to {H H' : Hp} {v : V} {d : PyData} (h : Dt H v d) (e : Same H H') : Dt H' v d := Dt.same e d v h
theorem DtAll.to {H H' : Hp} {v : List V} {d : List PyData} (h : DtAll H v d) (e : Same H H') : DtAll H' v d := DtAll.same e d v h
/-- a write at a place that held nothing of the data -/
theorem Dt.toX {a : Addr} {H H' : Hp} (e : SameX a H H') (H0 : Hp) (s : Same H0 H) (n : H0 a = none) {v : V} {d : PyData} (h : Dt H0 v d) : Dt H' v d := h.to (e.same s n)
theorem DtAll.len {H : Hp} : ∀ {vs : List V} {ds : List PyData}, DtAll H vs ds → vs.length = ds.length
  | _, _, .nil => rfl
  | _, _, .cons _ r => by rw [List.length_cons, List.length_cons, r.len]
theorem DtAll.get {H : Hp} : ∀ {vs : List V} {ds : List PyData}, DtAll H vs ds → ∀ (i : Nat) (v : V), vs[i]? = some v → ∃ d, ds[i]? = some d ∧ Dt H v d
  | _, _, .nil, i, v, h => by simp at h
  | _, _, .cons h1 r, 0, v, h => by
    have e := Option.some.inj (show some _ = some v from h)
    subst e
    exact ⟨_, rfl, h1⟩
  | _, _, .cons _ r, i + 1, v, h => r.get i v h
theorem DtAll.app {H : Hp} : ∀ {vs : List V} {ds : List PyData} {ws : List V} {es : List PyData}, DtAll H vs ds → DtAll H ws es → DtAll H (vs ++ ws) (ds ++ es)
  | _, _, _, _, .nil, k => k
  | _, _, _, _, .cons h r, k => .cons h (r.app k)
theorem DtAll.one {H : Hp} {v : V} {d : PyData} (h : Dt H v d) : DtAll H [v] [d] := .cons h .nil
theorem DtAll.ints {H : Hp} : ∀ l : List Int, DtAll H (l.map V.int) (l.map PyData.int)
  | [] => .nil
  | x :: r => .cons (.int x) (DtAll.ints r)
theorem DtAll.bls {H : Hp} : ∀ l : List Bool, DtAll H (l.map V.bl) (l.map PyData.bool)
  | [] => .nil
  | x :: r => .cons (.bl x) (DtAll.bls r)
theorem Dt.ints {H : Hp} {a : Addr} {l : List Int} (h : H a = some (.lst (l.map V.int))) : Dt H (.ref a) (.list (l.map PyData.int)) := .lst h (DtAll.ints l)
theorem readsKV {h : Heap} {P : Program} {w : World} : ∀ (kvs : List (Str × Int)) (vs : List (Key × Value)) (es : List DictEntry), KV (kvs.map fun p => ((.inr p.1 : Key), V.int p.2)) vs → PySem.Pairs (mixKind P w) es vs →
    ReadsAll h (es.map (·.key)) ((kvs.map fun p => (PyData.str p.1, PyData.int p.2)).map (·.1)) [] ∧ ReadsAll h (es.map (·.val)) ((kvs.map fun p => (PyData.str p.1, PyData.int p.2)).map (·.2)) []
  | [], _, _, .nil, .nil => ⟨.nil, .nil⟩
  | p :: r, _, _, .cons h1 t1, .cons f1 f2 t2 => by
    obtain ⟨a, b⟩ := readsKV (h := h) r _ _ t1 t2
    obtain ⟨e1, e2⟩ := h1
    skip
    skip
    obtain ⟨t, ht⟩ := e2
    constructor
    · refine ReadsAll.cons (as := []) (bs := []) ?_ a
      rw [← e1] at f1
      have f1 : keyIs (.inr p.1) _ = true := f1
      rcases keyIs_shape f1 with ⟨i, t, z, q⟩ | ⟨x, t, z, q⟩
      · cases z
      · dsimp only
        rw [q]
        cases z
        exact .str _ _
    · refine ReadsAll.cons (as := []) (bs := []) ?_ b
      dsimp only
      rw [f2, ht]
      exact .int _ _
section
variable {X : Cx} {pins : List (Addr × Obj)} {σ : L2.St} {H : Hp} {s : Shared}
mutual
theorem Dt.reads (I : Inv X pins σ H s) : ∀ (d : PyData) (v : V) (u : Value), Dt H v d → RelV v u → ∃ as, Reads s.heap u d as ∧ ((∃ kvs, d = .dict kvs) → sysModules ∉ as)
  | .none, _, _, h, r => by
    cases h
    cases r
    exact ⟨_, Reads.none, fun ⟨_, z⟩ => nomatch z⟩
  | .bool b, _, _, h, r => by
    cases h
    cases r
    exact ⟨_, Reads.bool b, fun ⟨_, z⟩ => nomatch z⟩
  | .int i, _, _, h, r => by
    cases h
    obtain ⟨t, rfl⟩ := r
    exact ⟨_, Reads.int i t, fun ⟨_, z⟩ => nomatch z⟩
  | .str x, _, _, h, r => by
    cases h
    obtain ⟨t, rfl⟩ := r
    exact ⟨_, Reads.str x t, fun ⟨_, z⟩ => nomatch z⟩
  | .list ds, _, _, h, r => by
    cases h with
    | lst hs ha =>
      cases r
      obtain ⟨its, rv, ⟨o, n, ho, hc, _, hd⟩, _⟩ := I.list (X := X) (show SqL X.K H _ _ from .inl (.inl hs))
      obtain ⟨as, hr⟩ := Dt.readsAll I ds _ its ha rv
      exact ⟨_, Reads.list ho hc hd hr, fun ⟨_, z⟩ => nomatch z⟩
  | .tuple ds, _, _, h, r => by
    cases h with
    | tup hs ha =>
      cases r
      obtain ⟨its, rv, ⟨o, ho, hc, n, hd⟩, _⟩ := I.tuple (X := X) (show SqT X.K H _ _ from .inl (.inl hs))
      obtain ⟨as, hr⟩ := Dt.readsAll I ds _ its ha rv
      exact ⟨_, Reads.tuple ho hc hd hr, fun ⟨_, z⟩ => nomatch z⟩
  | .dict ds, _, _, h, r => by
    cases h with
    | dic kvs hs =>
      cases r
      obtain ⟨_, ns, vs, kv, o, es, ep, ho, hx, hd, _, pr, _⟩ := dk_of I.hok hs
      obtain ⟨a, b⟩ := readsKV (h := s.heap) kvs vs es.toList kv pr
      refine ⟨_, Reads.dict ho hx.1 hd a b, fun _ z => ?_⟩
      simp only [List.append_nil, List.mem_singleton] at z
      rw [← z] at ns
      simp at ns
theorem Dt.readsAll (I : Inv X pins σ H s) : ∀ (ds : List PyData) (vs : List V) (us : List Value), DtAll H vs ds → Vals vs us → ∃ as, ReadsAll s.heap us ds as
  | [], _, _, h, r => by
    cases h
    cases r
    exact ⟨_, ReadsAll.nil⟩
  | d :: ds, _, _, h, r => by
    cases h with
    | cons h1 h2 =>
      cases r with
      | cons r1 r2 =>
        obtain ⟨as, q1, _⟩ := Dt.reads I d _ _ h1 r1
        obtain ⟨bs, q2⟩ := Dt.readsAll I ds _ _ h2 r2
        exact ⟨_, ReadsAll.cons q1 q2⟩
end
end
section
variable {X : Cx}
def rEqT : R2 := fun x y H Q => ∃ d e, Dt H x d ∧ Dt H y e ∧ SeqAt.shaped d = true ∧ SeqAt.shaped e = true ∧ Q (.bl (PyData.eqv d e)) H
def rNeT : R2 := fun x y H Q => ∃ d e, Dt H x d ∧ Dt H y e ∧ SeqAt.shaped d = true ∧ SeqAt.shaped e = true ∧ Q (.bl (!PyData.eqv d e)) H
theorem op_eqT (hu : X.A.units + 64 < cLine) : OpR X (compareOp .Eq) rEqT := by
  intro pins s σ H x y v u Q I rx ry h
  obtain ⟨d, e, hd, he, sd, se, q⟩ := h
  obtain ⟨as, r1, _⟩ := Dt.reads I d x v hd rx
  obtain ⟨bs, r2, _⟩ := Dt.reads I e y u he ry
  exact SeqAt.compareEq_shaped r1 r2 sd se hu ⟨.bl _, H, I, rfl, q⟩
theorem op_neT (hu : X.A.units + 64 < cLine) : OpR X (compareOp .NotEq) rNeT := by
  intro pins s σ H x y v u Q I rx ry h
  obtain ⟨d, e, hd, he, sd, se, q⟩ := h
  obtain ⟨as, r1, _⟩ := Dt.reads I d x v hd rx
  obtain ⟨bs, r2, _⟩ := Dt.reads I e y u he ry
  exact SeqAt.compareNe_shaped r1 r2 sd se hu ⟨.bl _, H, I, rfl, q⟩
/-- data whose repr can be told -/
structure Shows (d : PyData) : Prop where
  show_ : d.showable = true
  fits : d.shown.length ≤ sizeLine
  deep : d.depth ≤ 60
  top : d.hasDict = true → ∃ kvs, d = .dict kvs
theorem Nice.shows {d : PyData} (n : Nice d) : Shows d := ⟨(okD_all d n.ok).2.1, n.fits, n.deep, fun z => by rw [(okD_all d n.ok).2.2.1] at z; cases z⟩
theorem shows_empty : Shows (.dict []) := ⟨by decide +kernel, by rw [sizeLine_eq]; decide +kernel, by decide +kernel, fun _ => ⟨_, rfl⟩⟩
/-- repr of data: its text -/
def rReprT : List V → Hp → VK → Prop := fun xs H Q => ∃ (x : V) (d : PyData), xs = [x] ∧ Dt H x d ∧ Shows d ∧ Q (.str d.shown) H
theorem call_reprT (gd : Gd X.A) (hu : X.A.units + 64 < cLine) : CallR X (.builtin "repr") rReprT := by
  intro pins s σ H xs us Q I r h
  obtain ⟨x, d, rfl, dp, nice, q⟩ := h
  have sh := nice.show_
  have sz := nice.fits
  have dep := nice.deep
  obtain ⟨u, rfl, ru⟩ := vals1 r
  obtain ⟨as, rd, nm⟩ := Dt.reads I d x u dp ru
  have hsm : d.hasDict = true → sysModules ∉ as := fun e => nm (nice.top e)
  cases dp with
  | non => cases (show u = Value.none from ru); exact PySem.P.repr_of_none ⟨.str _, H, I.tok _, ⟨_, rfl⟩, q⟩
  | bl b => cases (show u = Value.bool b from ru); exact PySem.P.repr_of_bool ⟨.str _, H, I.tok _, ⟨_, rfl⟩, by simpa only [PyData.shown] using q⟩
  | int i => obtain ⟨t, rfl⟩ := ru; exact PySem.P.repr_of_int (by simpa only [PyData.showable, decide_eq_true_eq] using sh) ⟨.str _, H, I.tok _, ⟨_, rfl⟩, by simpa only [PyData.shown] using q⟩
  | str z => obtain ⟨t, rfl⟩ := ru; exact PySem.P.repr_of_str ⟨.str _, H, I.tok _, ⟨_, rfl⟩, by simpa only [PyData.shown] using q⟩ (by simpa only [PyData.shown] using sz)
  | @lst a xs ds e1 e2 =>
    cases (show u = Value.ref a from ru)
    exact repr_of_reads' rd sh hsm gd (by omega) (fun _ _ e => e) (fun h' u tk hk => ⟨.str _, H, I.kept hk, ⟨_, rfl⟩, q⟩) sz
  | @tup a xs ds e1 e2 =>
    cases (show u = Value.ref a from ru)
    exact repr_of_reads' rd sh hsm gd (by omega) (fun _ _ e => e) (fun h' u tk hk => ⟨.str _, H, I.kept hk, ⟨_, rfl⟩, q⟩) sz
  | @dic a kvs e1 =>
    cases (show u = Value.ref a from ru)
    exact repr_of_reads' rd sh hsm gd (by omega) (fun _ _ e => e) (fun h' u tk hk => ⟨.str _, H, I.kept hk, ⟨_, rfl⟩, q⟩) sz
end
/-! ### what kind data is of -/
def tyN : PyData → String
  | .none => "NoneType"
  | .bool _ => "bool"
  | .int _ => "int"
  | .str _ => "str"
  | .list _ => "list"
  | .tuple _ => "tuple"
  | .dict _ => "dict"
def isInt : PyData → Bool | .int _ => true | .bool _ => true | _ => false
def isBool : PyData → Bool | .bool _ => true | _ => false
def isList : PyData → Bool | .list _ => true | _ => false
def isTuple : PyData → Bool | .tuple _ => true | _ => false
def isStr : PyData → Bool | .str _ => true | _ => false
theorem kit_int (d : PyData) : kitB (tyN d) "int" = some (isInt d) := by cases d <;> kernel_rfl
theorem kit_bool (d : PyData) : kitB (tyN d) "bool" = some (isBool d) := by cases d <;> kernel_rfl
theorem kit_list (d : PyData) : kitB (tyN d) "list" = some (isList d) := by cases d <;> kernel_rfl
theorem kit_tuple (d : PyData) : kitB (tyN d) "tuple" = some (isTuple d) := by cases d <;> kernel_rfl
theorem kit_str (d : PyData) : kitB (tyN d) "str" = some (isStr d) := by cases d <;> kernel_rfl
theorem Dt.ty {K : PySem.W.Frag} {H : Hp} {v : V} {d : PyData} (h : Dt H v d) : TyX K H v (.type (tyN d)) := by
  cases h with
  | non => exact .base .non
  | bl b => exact .base (.bl b)
  | int i => exact .base (.int i)
  | str x => exact .base (.str x)
  | lst e _ => exact .base (.lst e)
  | tup e _ => exact .base (.tup e)
  | dic kvs e => exact .base (.dK e)
section
variable {X : Cx}
/-- isinstance(x, T) of data -/
def rIsD : List V → Hp → VK → Prop := fun xs H Q => ∃ (x : V) (d : PyData) (T : String) (b : Bool), xs = [x, .ty T] ∧ Dt H x d ∧ kitB (tyN d) T = some b ∧ Q (.bl b) H
theorem call_isD : CallR X (.builtin "isinstance") rIsD := by
  intro pins s σ H xs us Q I r h
  obtain ⟨x, d, T, b, rfl, hd, hk, q⟩ := h
  exact call_isi pins s σ H _ us Q I r ⟨x, .ty T, _, _, b, rfl, .ty T, hd.ty, kit_ty hk, q⟩
end
/-! ### sizes -/
structure Bnd (k b : Nat) (d : PyData) : Prop where
  ok : okD d = true
  deep : d.depth ≤ k
  small : d.bulk ≤ b
theorem Bnd.nice {k b : Nat} {d : PyData} (h : Bnd k b d) (hk : k ≤ 60) (hb : b ≤ 262144) : Nice d := ⟨h.ok, Nat.le_trans h.deep hk, Nat.le_trans h.small hb⟩
theorem Bnd.up {k b k' b' : Nat} {d : PyData} (h : Bnd k b d) (hk : k ≤ k') (hb : b ≤ b') : Bnd k' b' d := ⟨h.ok, Nat.le_trans h.deep hk, Nat.le_trans h.small hb⟩
theorem Bnd.non {k b : Nat} : Bnd k b .none := ⟨by simp only [okD], by simp only [PyData.depth]; omega, by simp only [PyData.bulk]; omega⟩
theorem Bnd.bl {k b : Nat} (x : Bool) : Bnd k b (.bool x) := ⟨by simp only [okD], by simp only [PyData.depth]; omega, by simp only [PyData.bulk]; omega⟩
theorem Bnd.int {k b : Nat} {i : Int} (h : i.natAbs < 10 ^ 38) : Bnd k b (.int i) := ⟨by simp only [okD, decide_eq_true_eq]; exact h, by simp only [PyData.depth]; omega, by simp only [PyData.bulk]; omega⟩
theorem okDs_of : ∀ l : List PyData, (∀ x ∈ l, okD x = true) → okDs l = true
  | [], _ => by simp only [okDs]
  | x :: r, h => by
    simp only [okDs, Bool.and_eq_true]
    exact ⟨h x (List.mem_cons_self ..), okDs_of r fun y hy => h y (List.mem_cons_of_mem _ hy)⟩
theorem okDs_mem : ∀ l : List PyData, okDs l = true → ∀ x ∈ l, okD x = true
  | [], _, x, hx => by cases hx
  | y :: r, h, x, hx => by
    have h' : okD y = true ∧ okDs r = true := by simpa only [okDs, Bool.and_eq_true] using h
    rcases List.mem_cons.mp hx with e | e
    · rw [e]; exact h'.1
    · exact okDs_mem r h'.2 x e
theorem depthAll_mem : ∀ l : List PyData, ∀ x ∈ l, x.depth ≤ PyData.depthAll l
  | [], x, hx => by cases hx
  | y :: r, x, hx => by
    simp only [PyData.depthAll]
    rcases List.mem_cons.mp hx with e | e
    · rw [e]; omega
    · have := depthAll_mem r x e
      omega
theorem bulkAll_mem : ∀ l : List PyData, ∀ x ∈ l, x.bulk ≤ PyData.bulkAll l
  | [], x, hx => by cases hx
  | y :: r, x, hx => by
    simp only [PyData.bulkAll]
    rcases List.mem_cons.mp hx with e | e
    · rw [e]; omega
    · have := bulkAll_mem r x e
      omega
theorem Bnd.list {k b n c : Nat} {ds : List PyData} (h : ∀ x ∈ ds, Bnd k b x) (hl : ds.length ≤ n) (hc : n * (b + 1) ≤ c) : Bnd (k + 1) c (.list ds) := by
  refine ⟨?_, ?_, ?_⟩
  · simp only [okD]
    exact okDs_of ds fun x hx => (h x hx).ok
  · have := depthAll_le (n := k) ds fun x hx => (h x hx).deep
    simp only [PyData.depth]; omega
  · have := bulkAll_le (n := b) ds fun x hx => (h x hx).small
    have := Nat.mul_le_mul_right (b + 1) hl
    simp only [PyData.bulk]; omega
theorem Bnd.tuple {k b n c : Nat} {ds : List PyData} (h : ∀ x ∈ ds, Bnd k b x) (hl : ds.length ≤ n) (hc : n * (b + 1) ≤ c) : Bnd (k + 1) c (.tuple ds) := by
  refine ⟨?_, ?_, ?_⟩
  · simp only [okD]
    exact okDs_of ds fun x hx => (h x hx).ok
  · have := depthAll_le (n := k) ds fun x hx => (h x hx).deep
    simp only [PyData.depth]; omega
  · have := bulkAll_le (n := b) ds fun x hx => (h x hx).small
    have := Nat.mul_le_mul_right (b + 1) hl
    simp only [PyData.bulk]; omega
theorem Nice.listMem {ds : List PyData} (h : Nice (.list ds)) : ∀ x ∈ ds, Nice x := fun x hx => by
  obtain ⟨a, b, c⟩ := h
  have a' : okDs ds = true := by simpa only [okD] using a
  have e1 := depthAll_mem ds x hx
  have e2 := bulkAll_mem ds x hx
  simp only [PyData.depth] at b
  simp only [PyData.bulk] at c
  exact ⟨okDs_mem ds a' x hx, by omega, by omega⟩
theorem Nice.tupMem {ds : List PyData} (h : Nice (.tuple ds)) : ∀ x ∈ ds, Nice x := fun x hx => by
  obtain ⟨a, b, c⟩ := h
  have a' : okDs ds = true := by simpa only [okD] using a
  have e1 := depthAll_mem ds x hx
  have e2 := bulkAll_mem ds x hx
  simp only [PyData.depth] at b
  simp only [PyData.bulk] at c
  exact ⟨okDs_mem ds a' x hx, by omega, by omega⟩
end Hw
namespace Hw
open PySem PySem.Spec PyProof.Rows L2
/-- a turn of a comprehension: the list so far is f 0, .., f (i - 1) -/
theorem lcS {H1 H' : Hp} {D : Addr} {f : Nat → V} {i : Nat} (hD : H1 D = none) (s : Same H1 H') (e : H' D = some (.lst ((List.range i).map f))) (hz : i ≤ 1000000) :
    ∃ acc, H' D = some (.lst acc) ∧ acc.length < sizeLine ∧ Same H1 (upd H' D (.lst (acc ++ [f i]))) ∧ (upd H' D (.lst (acc ++ [f i]))) D = some (.lst ((List.range (i + 1)).map f)) := by
  refine ⟨_, e, ?_, fun b o hb => ?_, ?_⟩
  · rw [List.length_map, List.length_range, sizeLine_eq]; omega
  · rw [upd_ne (ne_of_none hb hD)]
    exact s b o hb
  · rw [upd_same, List.range_succ, List.map_append]
    rfl
theorem range_get {α : Type} (l : List α) (f : α → V) (g : Nat → V) (h : ∀ i x, l[i]? = some x → g i = f x) : (List.range l.length).map g = l.map f := by
  apply List.ext_getElem?
  intro i
  rw [List.getElem?_map, List.getElem?_map]
  by_cases hi : i < l.length
  · rw [List.getElem?_range hi, List.getElem?_eq_getElem hi]
    exact congrArg some (h i _ (List.getElem?_eq_getElem hi))
  · rw [List.getElem?_eq_none (by rw [List.length_range]; omega), List.getElem?_eq_none (by omega)]
    rfl
/-- the same, told of the list's members -/
theorem range_mem {α : Type} {xs : List V} {l : List α} (f : α → V) (g : Nat → V) (hl : xs.length = l.length) (h : ∀ i x, l[i]? = some x → g i = f x) : (List.range xs.length).map g = l.map f := by
  rw [hl]
  exact range_get l f g h
end Hw
namespace Hw
open PySem PySem.Spec PyProof.Rows L2
/-- the answer about the member at i -/
def atF {α : Type} (l : List α) (g : α → Bool) (i : Nat) : Bool := match l[i]? with
  | some y => g y
  | none => false
theorem atF_at {α : Type} {l : List α} {g : α → Bool} {i : Nat} {y : α} (h : l[i]? = some y) : atF l g i = g y := by
  unfold atF
  rw [h]
theorem all_atF {α : Type} (l : List α) (g : α → Bool) : ((List.range l.length).map (atF l g)).all id = l.all g := by
  rw [Bool.eq_iff_iff, List.all_eq_true, List.all_eq_true]
  constructor
  · intro h y hy
    obtain ⟨i, hi, e⟩ := List.getElem_of_mem hy
    have h2 := h (atF l g i) (List.mem_map.mpr ⟨i, List.mem_range.mpr hi, rfl⟩)
    rw [atF_at (List.getElem?_eq_getElem hi), e] at h2
    exact h2
  · intro h b hb
    obtain ⟨i, hi, rfl⟩ := List.mem_map.mp hb
    have hi := List.mem_range.mp hi
    rw [atF_at (List.getElem?_eq_getElem hi)]
    exact h _ (List.getElem_mem hi)
theorem vi {a b : Int} : decide (V.int a = V.int b) = decide (a = b) := by
  by_cases h : a = b
  · rw [h, decide_eq_true rfl, decide_eq_true rfl]
  · rw [decide_eq_false h, decide_eq_false fun z => h (by cases z; rfl)]
theorem vs_eq {a b : Str} : decide (V.str a = V.str b) = decide (a = b) := by
  by_cases h : a = b
  · rw [h, decide_eq_true rfl, decide_eq_true rfl]
  · rw [decide_eq_false h, decide_eq_false fun z => h (by cases z; rfl)]
theorem shaped_list {fs : List PyData} (h : ∀ x ∈ fs, Nice x) : SeqAt.shaped (.list fs) = true := by
  have h1 : PyData.canLayAll0 fs = true := (okDs_all fs (okDs_of fs fun x hx => (h x hx).ok)).1
  have h2 := depthAll_le (n := 60) fs fun x hx => (h x hx).deep
  have h3 : PyData.canLay0 (.list fs) = true := by simp only [PyData.canLay0]; exact h1
  have h4 : PyData.depth (.list fs) ≤ 64 := by simp only [PyData.depth]; omega
  show (PyData.canLay0 (.list fs) && decide (PyData.depth (.list fs) ≤ 64)) = true
  rw [h3, decide_eq_true h4]
  rfl
theorem eqv_nil (fs : List PyData) : PyData.eqv (.list fs) (.list []) = fs.isEmpty := by cases fs <;> simp [PyData.eqv, PyData.eqvAll]
theorem shaped_nil : SeqAt.shaped (.list []) = true := shaped_list fun x hx => nomatch hx
end Hw

/-! ### the rules with the written part named -/
namespace Hw
open PySem PySem.Spec PyProof.Rows L2
section
variable {X : Cx} {K : PySem.W.Frag}
def rLenK (K : PySem.W.Frag) : List V → Hp → VK → Prop := fun xs H Q => ∃ p ys, xs = [.ref p] ∧ (SqL K H p ys ∨ SqT K H p ys) ∧ Q (.int ys.length) H
theorem call_lenK (h : X.K = K) : CallR X (.builtin "len") (rLenK K) := by subst h; exact call_len_seq
theorem cr_allK (h : X.K = K) (hc : X.calm = true) : CallR X (.builtin "all") (rAll K) := by subst h; exact cr_all hc
theorem cr_sumK (h : X.K = K) (hc : X.calm = true) : CallR X (.builtin "sum") (rSum K) := by subst h; exact cr_sum hc
def rListK (K : PySem.W.Frag) : List V → Hp → VK → Prop := fun xs H Q => ∃ p ys, xs = [.ref p] ∧ (SqL K H p ys ∨ SqT K H p ys) ∧ ∀ l, H l = none → Q (.ref l) (upd H l (.lst ys))
theorem call_listK (h : X.K = K) : CallR X (.type "list") (rListK K) := by subst h; exact call_list_of
def rTupK (K : PySem.W.Frag) : List V → Hp → VK → Prop := fun xs H Q => ∃ p ys, xs = [.ref p] ∧ ((SqL K H p ys ∧ ∀ l, H l = none → Q (.ref l) (upd H l (.tup ys))) ∨ (SqT K H p ys ∧ Q (.ref p) H))
theorem call_tupK (h : X.K = K) : CallR X (.type "tuple") (rTupK K) := by subst h; exact call_tuple_of
theorem ix_listK (h : X.K = K) : IxR X (rIxL K) := by subst h; exact ix_list
theorem ix_tupK (h : X.K = K) : IxR X (rIxT K) := by subst h; exact ix_tup
theorem sl_listK (h : X.K = K) : SlR X (rSlL K) := by subst h; exact sl_list
theorem sl_tupK (h : X.K = K) : SlR X (rSlA K) := by subst h; exact sl_tupA
end
end Hw
namespace Hw
open PySem PySem.Spec PyProof.Rows L2
/-! ### the heap but for one place -/
def off (a : Addr) (H : Hp) : Hp := fun b => if b = a then none else H b
theorem off_ne {a b : Addr} {H : Hp} (h : b ≠ a) : off a H b = H b := if_neg h
theorem off_at {a b : Addr} {H : Hp} {o : HO} (h : off a H b = some o) : b ≠ a ∧ H b = some o := by
  unfold off at h
  by_cases e : b = a
  · rw [if_pos e] at h; cases h
  · rw [if_neg e] at h; exact ⟨e, h⟩
theorem off_same {a : Addr} {H : Hp} : Same (off a H) H := fun _ _ h => (off_at h).2
theorem SameX.off {a : Addr} {H H' : Hp} (e : SameX a H H') : Same (off a H) (off a H') := fun b o h => by
  obtain ⟨n, h⟩ := off_at h
  rw [off_ne n]
  exact e b o n h
theorem off_of {a b : Addr} {H : Hp} {o : HO} (n : b ≠ a) (h : H b = some o) : off a H b = some o := by rw [off_ne n]; exact h
theorem Dt.on {a : Addr} {H : Hp} {v : V} {d : PyData} (h : Dt (off a H) v d) : Dt H v d := h.to off_same
/-! ### lists of numbers -/
abbrev natV (l : List Nat) : List V := l.map fun (x : Nat) => V.int (x : Int)
abbrev natD (l : List Nat) : List PyData := l.map fun (x : Nat) => PyData.int (x : Int)
theorem DtAll.nats {H : Hp} : ∀ l : List Nat, DtAll H (natV l) (natD l)
  | [] => .nil
  | x :: r => .cons (.int x) (DtAll.nats r)
theorem DtAll.nats_inv {H : Hp} : ∀ (l : List Nat) (vs : List V), DtAll H vs (natD l) → vs = natV l
  | [], _, h => by cases h; rfl
  | x :: r, _, h => by
    cases h with
    | cons h1 h2 =>
      cases h1
      rw [DtAll.nats_inv r _ h2]
      rfl
theorem DtAll.bls_inv {H : Hp} : ∀ (l : List Bool) (vs : List V), DtAll H vs (l.map PyData.bool) → vs = l.map V.bl
  | [], _, h => by cases h; rfl
  | x :: r, _, h => by
    cases h with
    | cons h1 h2 =>
      cases h1
      rw [DtAll.bls_inv r _ h2]
      rfl
theorem Dt.nats {H : Hp} {a : Addr} {l : List Nat} (h : H a = some (.lst (natV l))) : Dt H (.ref a) (.list (natD l)) := .lst h (DtAll.nats l)
theorem nat_get {l : List Nat} {i : Nat} {x : V} (h : (natV l)[i]? = some x) : ∃ b : Nat, l[i]? = some b ∧ V.int (b : Int) = x := by
  rw [List.getElem?_map] at h
  exact Option.map_eq_some_iff.mp h
theorem nat_at {l : List Nat} {i b : Nat} (h : l[i]? = some b) : (natV l)[i]? = some (V.int (b : Int)) := by
  rw [List.getElem?_map, h]
  rfl
theorem Bnd.nats {l : List Nat} {n c : Nat} (h : ∀ x ∈ l, x < 10 ^ 38) (hl : l.length ≤ n) (hc : n ≤ c) : Bnd 1 c (.list (natD l)) := by
  refine Bnd.list (k := 0) (b := 0) (n := n) (fun d hd => ?_) (by rw [List.length_map]; exact hl) (by omega)
  obtain ⟨x, hx, rfl⟩ := List.mem_map.mp hd
  exact .int (by have := h x hx; omega)
/-! ### bits in columns -/
def bitN (x p : Nat) : Nat := x / 2 ^ p % 2
def worthN : List Nat → Nat
  | [] => 0
  | b :: r => b + 2 * worthN r
theorem worthN_add : ∀ (l : List Nat) (b : Nat), worthN (l ++ [b]) = worthN l + b * 2 ^ l.length
  | [], b => by show b + 2 * 0 = 0 + b * 1; omega
  | c :: r, b => by
    show c + 2 * worthN (r ++ [b]) = c + 2 * worthN r + b * 2 ^ (r.length + 1)
    rw [worthN_add r b, Nat.pow_succ, Nat.mul_add, ← Nat.mul_assoc b, Nat.mul_comm _ 2]
    omega
theorem worthN_lt : ∀ l : List Nat, (∀ b ∈ l, b < 2) → worthN l < 2 ^ l.length
  | [], _ => by show 0 < 1; omega
  | c :: r, h => by
    have h1 := h c (List.mem_cons_self ..)
    have h2 := worthN_lt r fun b hb => h b (List.mem_cons_of_mem _ hb)
    show c + 2 * worthN r < 2 ^ (r.length + 1)
    rw [Nat.pow_succ]
    omega
theorem bitN_lt (x p : Nat) : bitN x p < 2 := Nat.mod_lt _ (by decide)
theorem bitN_worth : ∀ (l : List Nat) (i : Nat), (∀ b ∈ l, b < 2) → bitN (worthN l) i = l.getD i 0
  | [], i, _ => by
    show 0 / 2 ^ i % 2 = ([] : List Nat).getD i 0
    rw [Nat.zero_div]
    rfl
  | c :: r, 0, h => by
    have h1 := h c (List.mem_cons_self ..)
    show (c + 2 * worthN r) / 2 ^ 0 % 2 = c
    rw [Nat.pow_zero, Nat.div_one]
    omega
  | c :: r, i + 1, h => by
    have h1 := h c (List.mem_cons_self ..)
    have ih := bitN_worth r i fun b hb => h b (List.mem_cons_of_mem _ hb)
    show (c + 2 * worthN r) / 2 ^ (i + 1) % 2 = r.getD i 0
    rw [Nat.pow_succ, Nat.mul_comm (2 ^ i) 2, ← Nat.div_div_eq_div_mul, show (c + 2 * worthN r) / 2 = worthN r by omega]
    exact ih
theorem worthN_bits (x : Nat) : ∀ n : Nat, worthN ((List.range n).map (bitN x)) = x % 2 ^ n
  | 0 => by rw [Nat.pow_zero, Nat.mod_one]; rfl
  | n + 1 => by
    rw [List.range_succ, List.map_append, List.map_cons, List.map_nil, worthN_add, worthN_bits x n, List.length_map, List.length_range, Nat.mod_pow_succ, Nat.mul_comm]; rfl
/-- the p-th bits of all -/
def col (l : List Nat) (p : Nat) : Nat := worthN (l.map fun x => bitN x p)
def tr (n : Nat) (l : List Nat) : List Nat := (List.range n).map (col l)
theorem col_bits (l : List Nat) (p : Nat) : ∀ b ∈ l.map fun x => bitN x p, b < 2 := fun b hb => by
  obtain ⟨x, _, rfl⟩ := List.mem_map.mp hb
  exact bitN_lt x p
theorem col_lt (l : List Nat) (p : Nat) : col l p < 2 ^ l.length := by
  have := worthN_lt _ (col_bits l p)
  rw [List.length_map] at this
  exact this
theorem tr_len (n : Nat) (l : List Nat) : (tr n l).length = n := by unfold tr; rw [List.length_map, List.length_range]
theorem tr_lt {n : Nat} {l : List Nat} : ∀ x ∈ tr n l, x < 2 ^ l.length := fun x hx => by
  obtain ⟨p, _, rfl⟩ := List.mem_map.mp hx
  exact col_lt l p
theorem tr_tr {n : Nat} {l : List Nat} (h : ∀ x ∈ l, x < 2 ^ n) : tr l.length (tr n l) = l := by
  apply List.ext_getElem?
  intro i
  unfold tr
  rw [List.getElem?_map]
  by_cases hi : i < l.length
  · rw [List.getElem?_range hi, List.getElem?_eq_getElem hi]
    show some (col ((List.range n).map (col l)) i) = some l[i]
    unfold col
    rw [List.map_map]
    have e : (List.range n).map ((fun x => bitN x i) ∘ fun p => worthN (l.map fun x => bitN x p)) = (List.range n).map (bitN l[i]) := by
      apply List.map_congr_left
      intro p _
      show bitN (worthN (l.map fun x => bitN x p)) i = bitN l[i] p
      rw [bitN_worth _ _ (col_bits l p), List.getD_eq_getElem?_getD, List.getElem?_map, List.getElem?_eq_getElem hi]
      rfl
    rw [e, worthN_bits, Nat.mod_eq_of_lt (h _ (List.getElem_mem hi))]
  · rw [List.getElem?_eq_none (by rw [List.length_range]; omega), List.getElem?_eq_none (by omega)]
    rfl
theorem col_take {l : List Nat} {i x : Nat} (p : Nat) (h : l[i]? = some x) : col (l.take (i + 1)) p = col (l.take i) p + bitN x p * 2 ^ i := by
  unfold col
  have hi : i < l.length := (List.getElem?_eq_some_iff.mp h).1
  rw [List.take_add_one, h, List.map_append]
  show worthN (_ ++ [bitN x p]) = _
  rw [worthN_add, List.length_map, List.length_take, Nat.min_eq_left (by omega)]
/-! ### tables -/
structure Tb where
  many : Nat
  steps : List (List Nat)
  ends : List Bool
def Tb.d (t : Tb) : PyData := .tuple [.int (t.many : Int), .list (t.steps.map fun l => .list (natD l)), .list (t.ends.map .bool)]
structure Tb.Good (t : Tb) : Prop where
  many : t.many ≤ 6
  some : 0 < t.steps.length
  same : t.ends.length = t.steps.length
  line : ∀ l ∈ t.steps, l.length = 2 ^ t.many
  stand : ∀ l ∈ t.steps, ∀ x ∈ l, x < t.steps.length
def Tb.next (t : Tb) (s c : Nat) : Nat := (t.steps.getD s []).getD c 0
def Tb.behind (t : Tb) (l : List Nat) : Nat := l.foldl t.next 0
theorem Tb.Good.next {t : Tb} (g : t.Good) {s c : Nat} (hs : s < t.steps.length) (hc : c < 2 ^ t.many) : ∃ l, t.steps[s]? = Option.some l ∧ l[c]? = Option.some (t.next s c) ∧ t.next s c < t.steps.length := by
  have e := List.getElem?_eq_getElem hs
  have hl := g.line _ (List.getElem_mem hs)
  have hc' : c < (t.steps[s]).length := by omega
  have e2 := List.getElem?_eq_getElem hc'
  have en : t.next s c = t.steps[s][c] := by
    unfold Tb.next
    rw [List.getD_eq_getElem?_getD, List.getD_eq_getElem?_getD, e, Option.getD_some, e2]
    rfl
  exact ⟨_, e, by rw [en]; exact e2, by rw [en]; exact g.stand _ (List.getElem_mem hs) _ (List.getElem_mem hc')⟩
theorem Tb.Good.behind {t : Tb} (g : t.Good) : ∀ (l : List Nat) (s : Nat), s < t.steps.length → (∀ x ∈ l, x < 2 ^ t.many) → l.foldl t.next s < t.steps.length
  | [], s, hs, _ => hs
  | c :: r, s, hs, h => by
    obtain ⟨_, _, _, h3⟩ := g.next hs (h c (List.mem_cons_self ..))
    exact g.behind r _ h3 fun x hx => h x (List.mem_cons_of_mem _ hx)
theorem Tb.behind_take {t : Tb} {l : List Nat} {i c : Nat} (h : l[i]? = some c) : t.behind (l.take (i + 1)) = t.next (t.behind (l.take i)) c := by
  unfold Tb.behind
  rw [List.take_add_one, h, List.foldl_append]
  rfl
/-- where the table's parts stand -/
theorem Dt.tab {H : Hp} {x : V} {t : Tb} (h : Dt H x t.d) : ∃ (a b c : Addr) (ys : List V), x = .ref a ∧ H a = some (.tup [.int (t.many : Int), .ref b, .ref c]) ∧ H b = some (.lst ys) ∧ ys.length = t.steps.length ∧
    (∀ (i : Nat) (l : List Nat), t.steps[i]? = some l → ∃ r : Addr, ys[i]? = some (V.ref r) ∧ H r = some (.lst (natV l))) ∧ H c = some (.lst (t.ends.map V.bl)) ∧ DtAll H ys (t.steps.map fun l => .list (natD l)) := by
  unfold Tb.d at h
  cases h with
  | @tup a xs ds ha hs =>
  cases hs with
  | cons hm hs =>
  cases hs with
  | cons hst hs =>
  cases hs with
  | cons hen hs =>
  cases hs with
  | nil =>
  cases hm
  cases hst with
  | @lst b ys ss hb hss =>
  cases hen with
  | @lst c zs es hc hes =>
  have e := DtAll.bls_inv _ _ hes
  subst e
  have hl : ys.length = t.steps.length := by rw [hss.len, List.length_map]
  refine ⟨a, b, c, ys, rfl, ha, hb, hl, fun i l hi => ?_, hc, hss⟩
  have il : i < ys.length := by rw [hl]; exact (List.getElem?_eq_some_iff.mp hi).1
  obtain ⟨d, hd, hy⟩ := hss.get i _ (List.getElem?_eq_getElem il)
  rw [List.getElem?_map, hi] at hd
  cases hd
  generalize hz : ys[i] = z at hy
  cases hy with
  | @lst r qs _ hr hq =>
    have e := DtAll.nats_inv _ _ hq
    subst e
    exact ⟨r, by rw [List.getElem?_eq_getElem il, hz], hr⟩
end Hw
namespace Hw
open PySem PySem.Spec PyProof.Rows L2
/-! ### a comprehension with a test -/
def Flt (ds : List PyData) (p : PyData → Bool) (H1 : Hp) (D : Addr) (i : Nat) (H' : Hp) : Prop := Same H1 H' ∧ ∃ vs, H' D = some (.lst vs) ∧ DtAll H1 vs ((ds.take i).filter p) ∧ vs.length ≤ i
theorem Flt.start {ds : List PyData} {p : PyData → Bool} {H1 : Hp} {D : Addr} (hD : H1 D = none) : Flt ds p H1 D 0 (upd H1 D (.lst [])) := ⟨same_new' hD, [], upd_same, .nil, Nat.le_refl _⟩
theorem Flt.keep {ds : List PyData} {p : PyData → Bool} {H1 H' : Hp} {D : Addr} {i : Nat} {d : PyData} {y : V} (f : Flt ds p H1 D i H') (hD : H1 D = none) (hi : ds[i]? = some d) (hp : p d = true) (hy : Dt H1 y d) (hz : i ≤ 1000000) :
    ∃ acc, H' D = some (.lst acc) ∧ acc.length < sizeLine ∧ Flt ds p H1 D (i + 1) (upd H' D (.lst (acc ++ [y]))) := by
  obtain ⟨s, vs, e, hv, hl⟩ := f
  refine ⟨vs, e, by rw [sizeLine_eq]; omega, fun b o hb => ?_, vs ++ [y], upd_same, ?_, by rw [List.length_append]; show vs.length + 1 ≤ i + 1; omega⟩
  · rw [upd_ne (ne_of_none hb hD)]
    exact s b o hb
  · rw [List.take_add_one, hi, List.filter_append]
    refine hv.app ?_
    show DtAll H1 [y] (List.filter p [d])
    rw [List.filter_cons_of_pos hp]
    exact .cons hy .nil
theorem Flt.skip {ds : List PyData} {p : PyData → Bool} {H1 H' : Hp} {D : Addr} {i : Nat} {d : PyData} (f : Flt ds p H1 D i H') (hi : ds[i]? = some d) (hp : p d = false) : Flt ds p H1 D (i + 1) H' := by
  obtain ⟨s, vs, e, hv, hl⟩ := f
  refine ⟨s, vs, e, ?_, by omega⟩
  rw [List.take_add_one, hi, List.filter_append]
  show DtAll H1 vs (_ ++ List.filter p [d])
  rw [List.filter_cons_of_neg (by rw [hp]; exact Bool.false_ne_true), List.filter_nil, List.append_nil]
  exact hv
theorem Flt.done {ds : List PyData} {p : PyData → Bool} {H1 H' : Hp} {D : Addr} {n : Nat} (f : Flt ds p H1 D n H') (hn : n = ds.length) : Same H1 H' ∧ Dt H' (.ref D) (.list (ds.filter p)) := by
  obtain ⟨s, vs, e, hv, hl⟩ := f
  subst hn
  rw [List.take_length] at hv
  exact ⟨s, .lst e (hv.to s)⟩
theorem filter_none {α : Type} (p : α → Bool) : ∀ l : List α, (l.filter fun x => !p x).isEmpty = l.all p
  | [] => rfl
  | x :: r => by
    rw [List.all_cons, ← filter_none p r]
    cases h : p x with
    | true => rw [List.filter_cons_of_neg (by rw [h]; exact Bool.false_ne_true)]; rfl
    | false => rw [List.filter_cons_of_pos (by rw [h]; rfl)]; rfl
/-- .. != [] of such a list -/
theorem ne_nil {H' : Hp} {E : Addr} {x : V} {ds : List PyData} {p : PyData → Bool} {Q : VK} (hx : Dt H' x (.list (ds.filter p))) (hE : H' E = none) (nd : ∀ d ∈ ds, Nice d) (h : Q (.bl (!(ds.filter p).isEmpty)) (upd H' E (.lst []))) : rNeT x (.ref E) (upd H' E (.lst [])) Q := by
  refine ⟨_, .list [], hx.to (same_new' hE), .lst upd_same .nil, shaped_list fun d hd => nd d (List.mem_filter.mp hd).1, shaped_nil, ?_⟩
  rw [eqv_nil]
  exact h
end Hw

set_option Elab.async false
set_option linter.all false
set_option maxRecDepth 100000
set_option maxHeartbeats 4000000
/-! expressions that only lay new data: what they give, without their places -/
namespace Hw
open PySem PySem.Spec PyProof.Rows L2
/-- the heap without some places -/
def offs (l : List Addr) (H : Hp) : Hp := fun b => if b ∈ l then none else H b
theorem offs_at {l : List Addr} {b : Addr} {H : Hp} {o : HO} (h : offs l H b = some o) : b ∉ l ∧ H b = some o := by
  unfold offs at h
  by_cases e : b ∈ l
  · rw [if_pos e] at h; cases h
  · rw [if_neg e] at h; exact ⟨e, h⟩
theorem offs_of {l : List Addr} {b : Addr} {H : Hp} {o : HO} (n : b ∉ l) (h : H b = some o) : offs l H b = some o := by
  unfold offs
  rw [if_neg n]
  exact h
theorem offs_same {l : List Addr} {H : Hp} : Same (offs l H) H := fun _ _ h => (offs_at h).2
theorem offs_mono {l : List Addr} {H H' : Hp} (e : Same H H') : Same (offs l H) (offs l H') := fun b o h => by
  obtain ⟨n, h⟩ := offs_at h
  exact offs_of n (e b o h)
theorem offs_one {a : Addr} {H : Hp} : off a H = offs [a] H := by
  funext b
  unfold off offs
  by_cases h : b = a
  · rw [if_pos h, if_pos (by rw [h]; exact List.mem_singleton.mpr rfl)]
  · rw [if_neg h, if_neg fun z => h (List.mem_singleton.mp z)]
/-- a write at a hidden place -/
theorem offs_upd {l : List Addr} {F : Addr} {H : Hp} {o : HO} (h : F ∈ l) : offs l (upd H F o) = offs l H := by
  funext b
  unfold offs
  by_cases e : b ∈ l
  · rw [if_pos e, if_pos e]
  · rw [if_neg e, if_neg e, upd_ne fun z => e (by rw [z]; exact h)]
/-- what the work rests on: it stays while new things are laid -/
structure Stb (l : List Addr) (S : Hp → Prop) : Prop where
  keep : ∀ H H', S H → Same H H' → S H'
  new : ∀ H p, S H → H p = none → p ∉ l
abbrev Fi := V → Hp → Prop
def Ev (S : Hp → Prop) (φ : Fi) (te : TE) (σ : L2.St) : Prop := ∀ H Q, S H → (∀ x H', Same H H' → φ x H' → Q x H') → te σ H Q
def Eva (S : Hp → Prop) (Φ : List V → Hp → Prop) (ta : TA) (σ : L2.St) : Prop := ∀ H Q, S H → (∀ xs H', Same H H' → Φ xs H' → Q xs H') → ta σ H Q
def Evo (S : Hp → Prop) (to : TO) (σ : L2.St) : Prop := ∀ H (Q : Option Int → Hp → Prop), S H → (∀ x H', Same H H' → Q x H') → to σ H Q
/-- data; a list, a tuple of data; data one by one -/
def D (l : List Addr) (P : PyData → Prop) : Fi := fun x H => ∃ d, Dt (offs l H) x d ∧ P d
def LD (l : List Addr) (P : PyData → Prop) (n : Nat) : Fi := fun x H => ∃ p vs ds, x = .ref p ∧ offs l H p = some (.lst vs) ∧ DtAll (offs l H) vs ds ∧ (∀ d ∈ ds, P d) ∧ ds.length ≤ n
def TD (l : List Addr) (P : PyData → Prop) (n : Nat) : Fi := fun x H => ∃ p vs ds, x = .ref p ∧ offs l H p = some (.tup vs) ∧ DtAll (offs l H) vs ds ∧ (∀ d ∈ ds, P d) ∧ ds.length ≤ n
def AD (l : List Addr) (P : PyData → Prop) (n : Nat) : List V → Hp → Prop := fun xs H => ∃ ds, DtAll (offs l H) xs ds ∧ (∀ d ∈ ds, P d) ∧ ds.length ≤ n
section
variable {l : List Addr} {P : PyData → Prop} {k b n k' b' n' : Nat} {S : Hp → Prop} {σ : L2.St} {K : PySem.W.Frag}
theorem D.same {x : V} {H H' : Hp} (h : D l P x H) (e : Same H H') : D l P x H' := by
  obtain ⟨d, hd, hb⟩ := h
  exact ⟨d, hd.to (offs_mono e), hb⟩
theorem D.up {x : V} {H : Hp} (h : D l (Bnd k b) x H) (hk : k ≤ k') (hb : b ≤ b') : D l (Bnd k' b') x H := by
  obtain ⟨d, hd, h2⟩ := h
  exact ⟨d, hd, h2.up hk hb⟩
theorem LD.same {x : V} {H H' : Hp} (h : LD l P n x H) (e : Same H H') : LD l P n x H' := by
  obtain ⟨p, vs, ds, rfl, h1, h2, h3, h4⟩ := h
  exact ⟨p, vs, ds, rfl, offs_mono e _ _ h1, h2.to (offs_mono e), h3, h4⟩
theorem LD.d {x : V} {H : Hp} (h : LD l (Bnd k b) n x H) : D l (Bnd (k + 1) (n * (b + 1))) x H := by
  obtain ⟨p, vs, ds, rfl, h1, h2, h3, h4⟩ := h
  exact ⟨.list ds, .lst h1 h2, Bnd.list h3 h4 (Nat.le_refl _)⟩
theorem TD.d {x : V} {H : Hp} (h : TD l (Bnd k b) n x H) : D l (Bnd (k + 1) (n * (b + 1))) x H := by
  obtain ⟨p, vs, ds, rfl, h1, h2, h3, h4⟩ := h
  exact ⟨.tuple ds, .tup h1 h2, Bnd.tuple h3 h4 (Nat.le_refl _)⟩
theorem LD.up {x : V} {H : Hp} (h : LD l (Bnd k b) n x H) (hk : k ≤ k') (hb : b ≤ b') (hn : n ≤ n') : LD l (Bnd k' b') n' x H := by
  obtain ⟨p, vs, ds, rfl, h1, h2, h3, h4⟩ := h
  exact ⟨p, vs, ds, rfl, h1, h2, fun d hd => (h3 d hd).up hk hb, by omega⟩
theorem Ev.mono {φ ψ : Fi} {te : TE} (h : Ev S φ te σ) (m : ∀ x H, φ x H → ψ x H) : Ev S ψ te σ := fun H Q s q => h H Q s fun x H' e p => q x H' e (m x H' p)
theorem Ev.du {te : TE} (h : Ev S (D l (Bnd k b)) te σ) (hk : k ≤ k' := by decide) (hb : b ≤ b' := by decide) : Ev S (D l (Bnd k' b')) te σ := h.mono fun _ _ p => p.up hk hb
theorem Ev.ld {te : TE} (h : Ev S (LD l (Bnd k b) n) te σ) (hk : k + 1 ≤ k' := by decide) (hb : n * (b + 1) ≤ b' := by decide) : Ev S (D l (Bnd k' b')) te σ := h.mono fun _ _ p => p.d.up hk hb
theorem Ev.td {te : TE} (h : Ev S (TD l (Bnd k b) n) te σ) (hk : k + 1 ≤ k' := by decide) (hb : n * (b + 1) ≤ b' := by decide) : Ev S (D l (Bnd k' b')) te σ := h.mono fun _ _ p => p.d.up hk hb
theorem Ev.lu {te : TE} (h : Ev S (LD l (Bnd k b) n) te σ) (hk : k ≤ k' := by decide) (hb : b ≤ b' := by decide) (hn : n ≤ n' := by decide) : Ev S (LD l (Bnd k' b') n') te σ := h.mono fun _ _ p => p.up hk hb hn
/-! constants, names -/
theorem Ev.non : Ev S (D l (Bnd k b)) (tC .non) σ := fun H Q _ q => q _ H (Same.refl H) ⟨_, .non, .non⟩
theorem Ev.bl (x : Bool) : Ev S (D l (Bnd k b)) (tC (.bl x)) σ := fun H Q _ q => q _ H (Same.refl H) ⟨_, .bl x, .bl x⟩
theorem Ev.int (i : Int) (h : i.natAbs < 10 ^ 38 := by decide) : Ev S (D l (Bnd k b)) (tC (.int i)) σ := fun H Q _ q => q _ H (Same.refl H) ⟨_, .int i, .int h⟩
theorem Bnd.str {x : Str} (h : okD (.str x) = true) (hb : x.cps.size ≤ b) : Bnd k b (.str x) := ⟨h, by simp only [PyData.depth]; omega, by simp only [PyData.bulk]; omega⟩
theorem Ev.str (x : Str) (h : okD (.str x) = true := by decide +kernel) (hb : x.cps.size ≤ b := by decide +kernel) : Ev S (D l (Bnd k b)) (tC (.str x)) σ := fun H Q _ q => q _ H (Same.refl H) ⟨_, .str x, .str h hb⟩
theorem Ev.var {φ : Fi} {i : Nat} {x : V} (h : σ[i]? = some (some x)) (hx : ∀ H, S H → φ x H) : Ev S φ (tVar i) σ := fun H Q s q => ⟨x, h, q x H (Same.refl H) (hx H s)⟩
/-! lists, tuples -/
theorem Eva.nil : Eva S (AD l P 0) tNil σ := fun H Q _ q => q _ H (Same.refl H) ⟨[], .nil, (fun _ h => nomatch h), Nat.le_refl _⟩
theorem Eva.cons (st : Stb l S) {te : TE} {ta : TA} (h : Ev S (D l P) te σ) (r : Eva S (AD l P n) ta σ) : Eva S (AD l P (n + 1)) (tCons te ta) σ := fun H Q s q => by
  refine h H _ s fun x H1 e1 p1 => r H1 _ (st.keep _ _ s e1) fun xs H2 e2 p2 => q _ H2 (e1.trans e2) ?_
  obtain ⟨d, hd, hb⟩ := p1.same e2
  obtain ⟨ds, h1, h2, h3⟩ := p2
  exact ⟨d :: ds, .cons hd h1, fun y hy => by
    rcases List.mem_cons.mp hy with z | z
    · rw [z]; exact hb
    · exact h2 y z, by rw [List.length_cons]; omega⟩
theorem Ev.lst (st : Stb l S) {ta : TA} (h : Eva S (AD l P n) ta σ) (hn : n ≤ 100000 := by decide) : Ev S (LD l P n) (tLst ta) σ := fun H Q s q => by
  refine h H _ s fun xs H1 e1 p1 => ?_
  obtain ⟨ds, h1, h2, h3⟩ := p1
  refine ⟨by rw [h1.len, sizeLine_eq]; omega, fun p hp => ?_⟩
  have np := st.new H1 p (st.keep _ _ s e1) hp
  have e2 := same_new' (o := .lst xs) hp
  exact q _ _ (e1.trans e2) ⟨p, xs, ds, rfl, offs_of np upd_same, h1.to (offs_mono e2), h2, h3⟩
theorem Ev.tup (st : Stb l S) {ta : TA} (h : Eva S (AD l P n) ta σ) (hn : n ≤ 100000 := by decide) : Ev S (TD l P n) (tTup ta) σ := fun H Q s q => by
  refine h H _ s fun xs H1 e1 p1 => ?_
  obtain ⟨ds, h1, h2, h3⟩ := p1
  refine ⟨by rw [h1.len, sizeLine_eq]; omega, fun p hp => ?_⟩
  have np := st.new H1 p (st.keep _ _ s e1) hp
  have e2 := same_new' (o := .tup xs) hp
  exact q _ _ (e1.trans e2) ⟨p, xs, ds, rfl, offs_of np upd_same, h1.to (offs_mono e2), h2, h3⟩
theorem Ev.cat (st : Stb l S) {ta tb : TE} (h : Ev S (LD l P n) ta σ) (h' : Ev S (LD l P n') tb σ) (hn : n + n' ≤ 100000 := by decide) : Ev S (LD l P (n + n')) (tOp rCat ta tb) σ := fun H Q s q => by
  refine h H _ s fun x H1 e1 p1 => h' H1 _ (st.keep _ _ s e1) fun y H2 e2 p2 => ?_
  obtain ⟨p, vs, ds, rfl, a1, a2, a3, a4⟩ := p1.same e2
  obtain ⟨p', vs', ds', rfl, b1, b2, b3, b4⟩ := p2
  have h1 := a2.len
  have h2 := b2.len
  refine ⟨p, p', vs, vs', rfl, rfl, (offs_at a1).2, (offs_at b1).2, by rw [sizeLine_eq]; omega, fun r hr => ?_⟩
  have s2 := st.keep _ _ s (e1.trans e2)
  have nr := st.new H2 r s2 hr
  have e3 := same_new' (o := .lst (vs ++ vs')) hr
  exact q _ _ ((e1.trans e2).trans e3) ⟨r, _, ds ++ ds', rfl, offs_of nr upd_same, (a2.app b2).to (offs_mono e3), fun d hd => (List.mem_append.mp hd).elim (a3 d) (b3 d), by rw [List.length_append]; omega⟩
theorem Ev.catT (st : Stb l S) {ta tb : TE} (h : Ev S (TD l P n) ta σ) (h' : Ev S (TD l P n') tb σ) (hn : n + n' ≤ 100000 := by decide) : Ev S (TD l P (n + n')) (tOp (rCatA K) ta tb) σ := fun H Q s q => by
  refine h H _ s fun x H1 e1 p1 => h' H1 _ (st.keep _ _ s e1) fun y H2 e2 p2 => ?_
  obtain ⟨p, vs, ds, rfl, a1, a2, a3, a4⟩ := p1
  have a1 := offs_mono (l := l) e2 _ _ a1
  have a2 := a2.to (offs_mono e2)
  obtain ⟨p', vs', ds', rfl, b1, b2, b3, b4⟩ := p2
  have h1 := a2.len
  have h2 := b2.len
  refine ⟨p, p', vs, vs', rfl, rfl, .inl (.inl (offs_at a1).2), .inl (.inl (offs_at b1).2), by rw [sizeLine_eq]; omega, fun _ => ?_, fun _ _ => ?_, fun _ _ r hr => ?_⟩
  · exact q _ _ (e1.trans e2) ⟨p', vs', ds', rfl, b1, b2, b3, by omega⟩
  · exact q _ _ (e1.trans e2) ⟨p, vs, ds, rfl, a1, a2, a3, by omega⟩
  · have s2 := st.keep _ _ s (e1.trans e2)
    have nr := st.new H2 r s2 hr
    have e3 := same_new' (o := .tup (vs ++ vs')) hr
    exact q _ _ ((e1.trans e2).trans e3) ⟨r, _, ds ++ ds', rfl, offs_of nr upd_same, (a2.app b2).to (offs_mono e3), fun d hd => (List.mem_append.mp hd).elim (a3 d) (b3 d), by rw [List.length_append]; omega⟩
theorem DtAll.drop {H : Hp} : ∀ (i : Nat) {vs : List V} {ds : List PyData}, DtAll H vs ds → DtAll H (vs.drop i) (ds.drop i)
  | 0, _, _, h => h
  | _ + 1, _, _, .nil => .nil
  | i + 1, _, _, .cons _ r => DtAll.drop i r
theorem DtAll.take {H : Hp} : ∀ (i : Nat) {vs : List V} {ds : List PyData}, DtAll H vs ds → DtAll H (vs.take i) (ds.take i)
  | 0, _, _, _ => .nil
  | _ + 1, _, _, .nil => .nil
  | i + 1, _, _, .cons h r => .cons h (DtAll.take i r)
theorem cut_data {H : Hp} {vs : List V} {ds : List PyData} (h : DtAll H vs ds) (lo hi : Option Int) : ∃ es : List PyData, DtAll H (cutV vs lo hi) es ∧ (∀ d ∈ es, d ∈ ds) ∧ es.length ≤ ds.length := by
  unfold cutV
  refine ⟨_, DtAll.take _ (DtAll.drop _ h), fun d hd => List.mem_of_mem_drop (List.mem_of_mem_take hd), ?_⟩
  rw [List.length_take, List.length_drop]
  omega
theorem Ev.cut (st : Stb l S) {te : TE} {lo hi : TO} (h : Ev S (LD l P n) te σ) (h1 : Evo S lo σ) (h2 : Evo S hi σ) : Ev S (LD l P n) (L2.tSl (rSlL K) te lo hi) σ := fun H Q s q => by
  refine h H _ s fun x H1 e1 p1 => h1 H1 _ (st.keep _ _ s e1) fun i H2 e2 => h2 H2 _ (st.keep _ _ s (e1.trans e2)) fun j H3 e3 => ?_
  obtain ⟨p, vs, ds, rfl, a1, a2, a3, a4⟩ := p1.same (e2.trans e3)
  refine ⟨p, vs, rfl, .inl (.inl (offs_at a1).2), fun r hr => ?_⟩
  have e4 := e1.trans (e2.trans e3)
  have nr := st.new H3 r (st.keep _ _ s e4) hr
  have e5 := same_new' (o := .lst (cutV vs i j)) hr
  obtain ⟨es, c1, c2, c3⟩ := cut_data a2 i j
  exact q _ _ (e4.trans e5) ⟨r, _, es, rfl, offs_of nr upd_same, c1.to (offs_mono e5), fun d hd => a3 d (c2 d hd), by omega⟩
theorem Ev.cutT (st : Stb l S) {te : TE} {lo hi : TO} (h : Ev S (TD l P n) te σ) (h1 : Evo S lo σ) (h2 : Evo S hi σ) : Ev S (TD l P n) (L2.tSl (rSlA K) te lo hi) σ := fun H Q s q => by
  refine h H _ s fun x H1 e1 p1 => h1 H1 _ (st.keep _ _ s e1) fun i H2 e2 => h2 H2 _ (st.keep _ _ s (e1.trans e2)) fun j H3 e3 => ?_
  obtain ⟨p, vs, ds, rfl, a1, a2, a3, a4⟩ := p1
  have e23 := e2.trans e3
  have a1 := offs_mono (l := l) e23 _ _ a1
  have a2 := a2.to (offs_mono e23)
  have e4 := e1.trans (e2.trans e3)
  refine ⟨p, vs, rfl, .inl (.inl (offs_at a1).2), fun _ => q _ _ e4 ⟨p, vs, ds, rfl, a1, a2, a3, a4⟩, fun _ r hr => ?_⟩
  have nr := st.new H3 r (st.keep _ _ s e4) hr
  have e5 := same_new' (o := .tup (cutV vs i j)) hr
  obtain ⟨es, c1, c2, c3⟩ := cut_data a2 i j
  exact q _ _ (e4.trans e5) ⟨r, _, es, rfl, offs_of nr upd_same, c1.to (offs_mono e5), fun d hd => a3 d (c2 d hd), by omega⟩
theorem Evo.no : Evo S tNoPart σ := fun H Q _ q => q _ H (Same.refl H)
/-- an int -/
def I : Fi := fun x _ => ∃ i : Int, x = .int i
theorem Ev.intI (i : Int) : Ev S I (tC (.int i)) σ := fun H Q _ q => q _ H (Same.refl H) ⟨i, rfl⟩
theorem Ev.varI {i : Nat} {j : Int} (h : σ[i]? = some (some (.int j))) : Ev S I (tVar i) σ := fun H Q s q => ⟨_, h, q _ H (Same.refl H) ⟨j, rfl⟩⟩
theorem Evo.some {te : TE} (h : Ev S I te σ) : Evo S (tPart te) σ := fun H Q s q => h H _ s fun x H1 e1 p => by
  obtain ⟨i, rfl⟩ := p
  exact ⟨i, rfl, q _ H1 e1⟩
theorem Ev.listL (st : Stb l S) {te : TE} (h : Ev S (LD l P n) te σ) : Ev S (LD l P n) (tCB (rListK K) (tCons te tNil)) σ := fun H Q s q => by
  refine h H _ s fun x H1 e1 p1 => ?_
  obtain ⟨p, vs, ds, rfl, a1, a2, a3, a4⟩ := p1
  refine ⟨p, vs, rfl, .inl (.inl (.inl (offs_at a1).2)), fun r hr => ?_⟩
  have nr := st.new H1 r (st.keep _ _ s e1) hr
  have e5 := same_new' (o := .lst vs) hr
  exact q _ _ (e1.trans e5) ⟨r, _, ds, rfl, offs_of nr upd_same, a2.to (offs_mono e5), a3, a4⟩
theorem Ev.listT (st : Stb l S) {te : TE} (h : Ev S (TD l P n) te σ) : Ev S (LD l P n) (tCB (rListK K) (tCons te tNil)) σ := fun H Q s q => by
  refine h H _ s fun x H1 e1 p1 => ?_
  obtain ⟨p, vs, ds, rfl, a1, a2, a3, a4⟩ := p1
  refine ⟨p, vs, rfl, .inr (.inl (.inl (offs_at a1).2)), fun r hr => ?_⟩
  have nr := st.new H1 r (st.keep _ _ s e1) hr
  have e5 := same_new' (o := .lst vs) hr
  exact q _ _ (e1.trans e5) ⟨r, _, ds, rfl, offs_of nr upd_same, a2.to (offs_mono e5), a3, a4⟩
theorem Ev.tupL (st : Stb l S) {te : TE} (h : Ev S (LD l P n) te σ) : Ev S (TD l P n) (tCB (rTupK K) (tCons te tNil)) σ := fun H Q s q => by
  refine h H _ s fun x H1 e1 p1 => ?_
  obtain ⟨p, vs, ds, rfl, a1, a2, a3, a4⟩ := p1
  refine ⟨p, vs, rfl, .inl ⟨.inl (.inl (offs_at a1).2), fun r hr => ?_⟩⟩
  have nr := st.new H1 r (st.keep _ _ s e1) hr
  have e5 := same_new' (o := .tup vs) hr
  exact q _ _ (e1.trans e5) ⟨r, _, ds, rfl, offs_of nr upd_same, a2.to (offs_mono e5), a3, a4⟩
theorem Ev.len {te : TE} (h : Ev S (LD l (Bnd k b) n) te σ) (hn : n ≤ 100000 := by decide) : Ev S (D l (Bnd k' b')) (tCB (rLenK K) (tCons te tNil)) σ := fun H Q s q => by
  refine h H _ s fun x H1 e1 p1 => ?_
  obtain ⟨p, vs, ds, rfl, a1, a2, a3, a4⟩ := p1
  have := a2.len
  exact ⟨p, vs, rfl, .inl (.inl (.inl (offs_at a1).2)), q _ _ e1 ⟨_, .int _, .int (by omega)⟩⟩
theorem Ev.rep (st : Stb l S) {ta : TE} {j : Nat} (h : Ev S (LD l P n) ta σ) (hj : n * j ≤ 100000 := by decide) (hj2 : j ≤ 1000 := by decide) : Ev S (LD l P (n * j)) (tOp rRep ta (tC (.int (j : Int)))) σ := fun H Q s q => by
  refine h H _ s fun x H1 e1 p1 => ?_
  obtain ⟨p, vs, ds, rfl, a1, a2, a3, a4⟩ := p1
  have hl := a2.len
  have hm : ds.length * j ≤ n * j := Nat.mul_le_mul_right j a4
  refine ⟨p, j, vs, rfl, rfl, (offs_at a1).2, by omega, by omega, by rw [hl, Int.toNat_natCast, sizeLine_eq]; omega, fun r hr => ?_⟩
  have nr := st.new H1 r (st.keep _ _ s e1) hr
  have e5 := same_new' (o := .lst (List.replicate (j : Int).toNat vs).flatten) hr
  have key : ∀ m : Nat, DtAll (offs l H1) (List.replicate m vs).flatten (List.replicate m ds).flatten := by
    intro m
    induction m with
    | zero => exact .nil
    | succ m ih =>
      rw [List.replicate_succ, List.replicate_succ, List.flatten_cons, List.flatten_cons]
      exact a2.app ih
  refine q _ _ (e1.trans e5) ⟨r, _, (List.replicate j ds).flatten, rfl, offs_of nr upd_same, ?_, fun d hd => ?_, ?_⟩
  · rw [Int.toNat_natCast]
    exact (key j).to (offs_mono (by rw [Int.toNat_natCast] at e5; exact e5))
  · obtain ⟨m, hm1, hm2⟩ := List.mem_flatten.mp hd
    rw [List.eq_of_mem_replicate hm1] at hm2
    exact a3 d hm2
  · rw [List.length_flatten, List.map_replicate, List.sum_replicate_nat, Nat.mul_comm]
    exact hm
end
end Hw
namespace Hw
open PySem PySem.Spec PyProof.Rows L2
/-! ### statements, read one by one -/
def iAt (J : It) : TI := fun _ H R => R J H
section
variable {K : PySem.W.Frag} {te : TE} {g : TG} {tb t u : TS} {d : Ends} {σ : L2.St} {H : Hp} {i : Nat}
theorem forL (h : te σ H fun x H1 => ∃ a, x = .ref a ∧ (∃ xs, SqL K H1 a xs) ∧ tFor (iAt (Itl K a)) g tb d σ H1) : tFor (iList K te) g tb d σ H := h
theorem seqL (h : t { d with nx := u d } σ H) : tSeq t u d σ H := h
theorem setL (h : te σ H fun x H1 => d.nx (σ.set i (some x)) H1) : tAsg te (gName i) d σ H := h
theorem setNil (h : ∀ p, H p = none → d.nx (σ.set i (some (.ref p))) (upd H p (.lst []))) : tAsg (tLst tNil) (gName i) d σ H := ⟨Nat.zero_le _, h⟩
theorem retL (h : te σ H d.rt) : tRet te d σ H := h
end
end Hw
namespace Hw
open PySem PySem.Spec PyProof.Rows L2
section
variable {X : Cx} {K : PySem.W.Frag}
theorem pi_enumK {e : Expr} {ta : TA} {p pos tpos : Pos} {elts : List Expr} {kk : Nat} (h : X.K = K) (hg : Gl X "enumerate") (hm : X.mg "enumerate" = none) (ha : PA X [e] ta) (hs : starEach [e] X.env = [(false, eval e X.env)] := by rfl) :
    PI X (.Tuple elts kk tpos) (.Call (.Name "enumerate" p) [e] [] pos) (iEnum K ta) := by
  subst h
  exact pi_enum hg hm ha hs
theorem pi_listK {tg : Expr} {l : Expr} {tl : TE} (h : X.K = K) (hl : PE X l tl) : PI X tg l (iList K tl) := by
  subst h
  exact pi_list hl
end
end Hw
namespace Hw
open PySem PySem.Spec PyProof.Rows L2
/-! ### literals, told exactly -/
def Ed (d : PyData) : Fi := fun x H => Dt H x d
def Eda (ds : List PyData) : List V → Hp → Prop := fun xs H => DtAll H xs ds
abbrev Tr : Hp → Prop := fun _ => True
section
variable {σ : L2.St} {ds : List PyData} {d : PyData} {te : TE} {ta : TA} {i j : Nat} {e : Ends} {H : Hp}
theorem Ev.eint (i : Int) : Ev Tr (Ed (.int i)) (tC (.int i)) σ := fun H Q _ q => q _ H (Same.refl H) (.int i)
theorem Ev.ebl (b : Bool) : Ev Tr (Ed (.bool b)) (tC (.bl b)) σ := fun H Q _ q => q _ H (Same.refl H) (.bl b)
theorem Ev.estr (x : Str) : Ev Tr (Ed (.str x)) (tC (.str x)) σ := fun H Q _ q => q _ H (Same.refl H) (.str x)
theorem Ev.enon : Ev Tr (Ed .none) (tC .non) σ := fun H Q _ q => q _ H (Same.refl H) .non
theorem Eva.enil : Eva Tr (Eda []) tNil σ := fun H Q _ q => q _ H (Same.refl H) .nil
theorem Eva.econs (h : Ev Tr (Ed d) te σ) (r : Eva Tr (Eda ds) ta σ) : Eva Tr (Eda (d :: ds)) (tCons te ta) σ := fun H Q s q => h H _ s fun x H1 e1 p1 => r H1 _ s fun xs H2 e2 p2 => q _ H2 (e1.trans e2) (.cons (Dt.to p1 e2) p2)
theorem Ev.elst (h : Eva Tr (Eda ds) ta σ) (hn : ds.length ≤ 100000 := by decide) : Ev Tr (Ed (.list ds)) (tLst ta) σ := fun H Q s q => h H _ s fun xs H1 e1 p1 => by
  have p1 : DtAll H1 xs ds := p1
  refine ⟨by rw [p1.len, sizeLine_eq]; omega, fun p hp => ?_⟩
  have e2 := same_new' (o := .lst xs) hp
  exact q _ _ (e1.trans e2) (Dt.lst upd_same (p1.to e2))
theorem Ev.etup (h : Eva Tr (Eda ds) ta σ) (hn : ds.length ≤ 100000 := by decide) : Ev Tr (Ed (.tuple ds)) (tTup ta) σ := fun H Q s q => h H _ s fun xs H1 e1 p1 => by
  have p1 : DtAll H1 xs ds := p1
  refine ⟨by rw [p1.len, sizeLine_eq]; omega, fun p hp => ?_⟩
  have e2 := same_new' (o := .tup xs) hp
  exact q _ _ (e1.trans e2) (Dt.tup upd_same (p1.to e2))
theorem parL (h : ta σ H fun vs H1 => ∃ v w, vs = [v, w] ∧ e.nx ((σ.set i (some v)).set j (some w)) H1) : tPar i j ta e σ H := h
theorem Dt.nats_at {x : V} {l : List Nat} (h : Dt H x (.list (natD l))) : ∃ a, x = .ref a ∧ H a = some (.lst (natV l)) := by
  cases h with
  | @lst a xs _ ha hs =>
    have e := DtAll.nats_inv _ _ hs
    subst e
    exact ⟨a, rfl, ha⟩
theorem natV_rep (n x : Nat) : (List.replicate n [V.int (x : Int)]).flatten = natV (List.replicate n x) := by
  unfold natV
  rw [List.map_replicate]
  induction n with
  | zero => rfl
  | succ n ih => rw [List.replicate_succ, List.flatten_cons, ih, List.replicate_succ]; rfl
theorem natV_rep2 (n x y : Nat) : (List.replicate n [V.int (x : Int), .int (y : Int)]).flatten = natV (List.replicate n [x, y]).flatten := by
  unfold natV
  rw [List.map_flatten, List.map_replicate]
  rfl
end
end Hw

set_option Elab.async false
set_option linter.all false
/-! sets of widths: a list ahead and a turn; their plain form -/
namespace Hw
/-- the item at a width -/
def itemW (A T : List Bool) (w : Nat) : Bool := if w < A.length then A.getD w false else T.getD ((w - A.length) % T.length) false
/-- from n on the same at p more -/
def EvP (f : Nat → Bool) (n p : Nat) : Prop := ∀ w, n ≤ w → f (w + p) = f w
theorem EvP.mono {f : Nat → Bool} {n m p : Nat} (h : EvP f n p) (hm : n ≤ m) : EvP f m p := fun w hw => h w (by omega)
theorem EvP.mul {f : Nat → Bool} {n p : Nat} (h : EvP f n p) : ∀ k, EvP f n (p * k)
  | 0, w, _ => by rw [Nat.mul_zero, Nat.add_zero]
  | k + 1, w, hw => by
    rw [Nat.mul_succ, ← Nat.add_assoc, h _ (by omega)]
    exact EvP.mul h k w hw
theorem EvP.rest {f : Nat → Bool} {n p q : Nat} (h : EvP f n p) (h2 : EvP f n q) : EvP f n (q % p) := fun w hw => by
  have e := Nat.div_add_mod q p
  have a := h.mul (q / p) (w + q % p) (by omega)
  have b := h2 w hw
  rw [← a, ← b]
  congr 1
  omega
theorem EvP.gcd {f : Nat → Bool} {n : Nat} (p q : Nat) : EvP f n p → EvP f n q → EvP f n (Nat.gcd p q) := by
  induction p, q using Nat.gcd.induction with
  | H0 q => intro _ h; rw [Nat.gcd_zero_left]; exact h
  | H1 p q _ ih =>
    intro h1 h2
    rw [Nat.gcd_rec]
    exact ih (h1.rest h2) h1
theorem getD_lt {l : List Bool} {i : Nat} (h : i < l.length) : l.getD i false = l[i] := by
  rw [List.getD_eq_getElem?_getD, List.getElem?_eq_getElem h]
  rfl
theorem ext_getD {l m : List Bool} (hl : l.length = m.length) (h : ∀ i, i < l.length → l.getD i false = m.getD i false) : l = m := by
  apply List.ext_getElem hl
  intro i h1 h2
  have := h i h1
  rw [getD_lt h1, getD_lt h2] at this
  exact this
theorem item_lt {A T : List Bool} {w : Nat} (h : w < A.length) : itemW A T w = A.getD w false := if_pos h
theorem item_ge {A T : List Bool} (i : Nat) : itemW A T (A.length + i) = T.getD (i % T.length) false := by
  unfold itemW
  rw [if_neg (by omega), Nat.add_sub_cancel_left]
theorem item_ge' {A T : List Bool} {w : Nat} (h : A.length ≤ w) : itemW A T w = T.getD ((w - A.length) % T.length) false := if_neg (by omega)
theorem evp_item (A T : List Bool) : EvP (itemW A T) A.length T.length := fun w hw => by
  rw [item_ge' hw, item_ge' (by omega), show w + T.length - A.length = (w - A.length) + T.length by omega, Nat.add_mod_right]
/-- the plain form of a set -/
structure PlainOf (f : Nat → Bool) (A T : List Bool) : Prop where
  some : 0 < T.length
  is : ∀ w, itemW A T w = f w
  last : 0 < A.length → A.getD (A.length - 1) false ≠ T.getD (T.length - 1) false
  least : ∀ n p, 0 < p → EvP f n p → T.length ≤ p
theorem PlainOf.per {f : Nat → Bool} {A T : List Bool} (h : PlainOf f A T) : EvP f A.length T.length := fun w hw => by
  rw [← h.is, ← h.is]
  exact evp_item A T w hw
theorem PlainOf.ahead {f : Nat → Bool} {A T A' T' : List Bool} (h : PlainOf f A T) (h' : PlainOf f A' T') (e : T.length = T'.length) : A'.length ≤ A.length := by
  refine Nat.le_of_not_lt fun lt => ?_
  have a := h.per (A'.length - 1) (by omega)
  have b := h'.last (by omega)
  rw [← item_lt (T := T') (show A'.length - 1 < A'.length by omega), h'.is, ← a, ← h'.is, show A'.length - 1 + T.length = A'.length + (T'.length - 1) by have := h.some; omega, item_ge, Nat.mod_eq_of_lt (by have := h'.some; omega)] at b
  exact b rfl
theorem PlainOf.uniq {f : Nat → Bool} {A T A' T' : List Bool} (h : PlainOf f A T) (h' : PlainOf f A' T') : A = A' ∧ T = T' := by
  have e : T.length = T'.length := Nat.le_antisymm (h.least _ _ h'.some h'.per) (h'.least _ _ h.some h.per)
  have ea : A.length = A'.length := Nat.le_antisymm (h'.ahead h e.symm) (h.ahead h' e)
  refine ⟨ext_getD ea fun i hi => ?_, ext_getD e fun i hi => ?_⟩
  · rw [← item_lt (T := T) hi, ← item_lt (T := T') (by omega), h.is, h'.is]
  · have a := item_ge (A := A) (T := T) i
    have b := item_ge (A := A') (T := T') i
    rw [Nat.mod_eq_of_lt hi] at a
    rw [Nat.mod_eq_of_lt (by omega)] at b
    rw [← a, ← b, h.is, h'.is, ea]
/-! the shortest turn -/
/-- a shorter list repeated -/
def Per (T : List Bool) (s : Nat) : Prop := T.length % s = 0 ∧ ∀ i, i < T.length → T.getD i false = T.getD (i % s) false
instance (T : List Bool) (s : Nat) : Decidable (Per T s) := inferInstanceAs (Decidable (_ ∧ _))
theorem Per.all (T : List Bool) : Per T T.length := ⟨Nat.mod_self _, fun i hi => by rw [Nat.mod_eq_of_lt hi]⟩
theorem getD_take {l : List Bool} {n i : Nat} (h : i < n) : (l.take n).getD i false = l.getD i false := by
  rw [List.getD_eq_getElem?_getD, List.getD_eq_getElem?_getD, List.getElem?_take, if_pos h]
theorem getD_drop {l : List Bool} {n i : Nat} : (l.drop n).getD i false = l.getD (n + i) false := by
  rw [List.getD_eq_getElem?_getD, List.getD_eq_getElem?_getD, List.getElem?_drop]
theorem Per.item {A T : List Bool} {s : Nat} (h : Per T s) (hs : 0 < s) (ht : s ≤ T.length) (w : Nat) : itemW A (T.take s) w = itemW A T w := by
  by_cases hw : w < A.length
  · rw [item_lt hw, item_lt hw]
  · have hw : A.length ≤ w := by omega
    rw [item_ge' hw, item_ge' hw, List.length_take, Nat.min_eq_left ht, getD_take (Nat.mod_lt _ hs), h.2 _ (Nat.mod_lt _ (by omega)), Nat.mod_mod_of_dvd _ (Nat.dvd_of_mod_eq_zero h.1)]
/-- a turn that is told by a shorter one for some number, is one by this number's part that goes into it -/
theorem per_of_ev {A T : List Bool} {n p : Nat} (h0 : 0 < T.length) (hp : 0 < p) (h : EvP (itemW A T) n p) : ∃ d, 0 < d ∧ d ≤ p ∧ d ≤ T.length ∧ Per T d := by
  let N := max n A.length
  have e1 : EvP (itemW A T) N p := h.mono (Nat.le_max_left ..)
  have e2 : EvP (itemW A T) N T.length := (evp_item A T).mono (Nat.le_max_right ..)
  have e := EvP.gcd _ _ e1 e2
  have d0 : 0 < Nat.gcd p T.length := Nat.gcd_pos_of_pos_left _ hp
  refine ⟨Nat.gcd p T.length, d0, Nat.gcd_le_left _ hp, Nat.gcd_le_right _ h0, Nat.mod_eq_zero_of_dvd (Nat.gcd_dvd_right ..), fun i hi => ?_⟩
  revert e d0
  generalize Nat.gcd p T.length = d
  intro e d0
  have hN : A.length ≤ N := Nat.le_max_right ..
  have big : N ≤ T.length * N := Nat.le_mul_of_pos_left N h0
  have a := item_ge (A := A) (T := T) (i + T.length * N)
  have b := item_ge (A := A) (T := T) (i % d + T.length * N)
  have il : i % d ≤ i := Nat.mod_le _ _
  rw [Nat.add_mul_mod_self_left, Nat.mod_eq_of_lt hi] at a
  rw [Nat.add_mul_mod_self_left, Nat.mod_eq_of_lt (show i % d < T.length by omega)] at b
  rw [← a, ← b, ← e.mul (i / d) (A.length + (i % d + T.length * N)) (by omega)]
  have := Nat.div_add_mod i d
  congr 1
  omega
/-- the least length of a list that is repeated -/
def leastS (T : List Bool) : Nat := ((List.range' 1 T.length).find? fun s => decide (Per T s)).getD T.length
structure Least (T : List Bool) (s : Nat) : Prop where
  pos : 0 < s
  le : s ≤ T.length
  per : Per T s
  min : ∀ r, 0 < r → r < s → ¬ Per T r
theorem Least.uniq {T : List Bool} {s r : Nat} (h : Least T s) (k : Least T r) : s = r := by
  refine Nat.le_antisymm (Nat.le_of_not_lt fun z => ?_) (Nat.le_of_not_lt fun z => ?_)
  · exact h.min r k.pos z k.per
  · exact k.min s h.pos z h.per
theorem least_ok {T : List Bool} (h : 0 < T.length) : Least T (leastS T) := by
  unfold leastS
  cases e : (List.range' 1 T.length).find? fun s => decide (Per T s) with
  | none =>
    have := List.find?_eq_none.mp e T.length (List.mem_range'_1.mpr (by omega))
    exact absurd (Per.all T) (by simpa using this)
  | some s =>
    obtain ⟨h1, as, bs, h2, h3⟩ := List.find?_eq_some_iff_append.mp e
    have hm : s ∈ List.range' 1 T.length := by rw [h2]; simp
    have hm := List.mem_range'_1.mp hm
    refine ⟨by show 0 < s; omega, by show s ≤ _; omega, by simpa using h1, fun r r0 r1 pr => ?_⟩
    have r1 : r < s := r1
    have hr : r ∈ List.range' 1 T.length := List.mem_range'_1.mpr (by omega)
    rw [h2] at hr
    rcases List.mem_append.mp hr with q | q
    · have := h3 r q
      simp [pr] at this
    · have srt : (as ++ s :: bs).Pairwise (· < ·) := by rw [← h2]; exact List.pairwise_lt_range'
      have := (List.pairwise_append.mp srt).2.1
      rcases List.mem_cons.mp q with z | z
      · omega
      · have := (List.pairwise_cons.mp this).1 r z
        omega
/-- a form that is not yet plain: the end of the list ahead may be moved into the turn -/
structure Half (f : Nat → Bool) (A T : List Bool) : Prop where
  some : 0 < T.length
  is : ∀ w, itemW A T w = f w
  least : ∀ n p, 0 < p → EvP f n p → T.length ≤ p
theorem half_of {A T : List Bool} {s : Nat} (h : Least T s) : Half (itemW A T) A (T.take s) := by
  have e : (T.take s).length = s := by rw [List.length_take, Nat.min_eq_left h.le]
  refine ⟨by rw [e]; exact h.pos, h.per.item h.pos h.le, fun n p hp q => ?_⟩
  obtain ⟨d, d0, d1, d2, d3⟩ := per_of_ev (by have := h.pos; have := h.le; omega) hp q
  rw [e]
  refine Nat.le_trans (Nat.le_of_not_lt fun z => h.min d d0 z d3) d1
theorem item_step (A T : List Bool) (b : Bool) (w : Nat) : itemW (A ++ [b]) (T ++ [b]) w = itemW A (b :: T) w := by
  by_cases h : w < A.length
  · rw [item_lt h, item_lt (by rw [List.length_append]; omega), List.getD_eq_getElem?_getD, List.getElem?_append_left h, ← List.getD_eq_getElem?_getD]
  · by_cases h2 : w = A.length
    · subst h2
      rw [item_lt (by rw [List.length_append]; show _ < _ + 1; omega), show A.length = A.length + 0 from rfl, item_ge (A := A), Nat.zero_mod, List.getD_eq_getElem?_getD, Nat.add_zero, List.getElem?_append_right (Nat.le_refl _), Nat.sub_self]
      rfl
    · obtain ⟨i, rfl⟩ : ∃ i, w = A.length + (i + 1) := ⟨w - A.length - 1, by omega⟩
      have e1 := item_ge (A := A ++ [b]) (T := T ++ [b]) i
      have l1 : (A ++ [b]).length = A.length + 1 := by rw [List.length_append]; rfl
      have l2 : (T ++ [b]).length = T.length + 1 := by rw [List.length_append]; rfl
      rw [l1, show A.length + 1 + i = A.length + (i + 1) by omega, l2] at e1
      rw [e1, item_ge, List.length_cons]
      have hm : i % (T.length + 1) < T.length + 1 := Nat.mod_lt _ (by omega)
      rw [Nat.add_mod i 1]
      by_cases hl : i % (T.length + 1) = T.length
      · rw [hl]
        cases T with
        | nil => rfl
        | cons c T =>
          rw [show 1 % ((c :: T).length + 1) = 1 from Nat.mod_eq_of_lt (by rw [List.length_cons]; omega), Nat.mod_self, List.getD_eq_getElem?_getD, List.getElem?_append_right (Nat.le_refl _), Nat.sub_self]
          rfl
      · cases T with
        | nil => simp only [List.length_nil] at hl hm; omega
        | cons c T =>
          rw [show 1 % ((c :: T).length + 1) = 1 from Nat.mod_eq_of_lt (by rw [List.length_cons]; omega), Nat.mod_eq_of_lt (show i % ((c :: T).length + 1) + 1 < (c :: T).length + 1 by omega), List.getD_eq_getElem?_getD, List.getElem?_append_left (by omega)]
          rw [List.getD_eq_getElem?_getD, List.getElem?_cons_succ]
/-- one step of the law's: the last item of the list ahead, if it is the turn's, goes into the turn -/
def stepW (p : List Bool × List Bool) : List Bool × List Bool :=
  if p.1.length = 0 then p else if p.1.getD (p.1.length - 1) false = p.2.getD (p.2.length - 1) false then (p.1.take (p.1.length - 1), p.2.drop (p.2.length - 1) ++ p.2.take (p.2.length - 1)) else p
def stepsW : Nat → List Bool × List Bool → List Bool × List Bool
  | 0, p => p
  | n + 1, p => stepsW n (stepW p)
def plainF (A T : List Bool) : List Bool × List Bool := stepsW A.length (A, T.take (leastS T))
theorem take_last {l : List Bool} (h : 0 < l.length) : l = l.take (l.length - 1) ++ [l.getD (l.length - 1) false] := by
  have e := List.take_append_drop (l.length - 1) l
  have d : l.drop (l.length - 1) = [l.getD (l.length - 1) false] := by
    apply ext_getD
    · rw [List.length_drop]; show _ = 1; omega
    · intro i hi
      rw [List.length_drop] at hi
      have : i = 0 := by omega
      subst this
      rw [getD_drop]
      rfl
  rw [← d]
  exact e.symm
theorem Half.step {f : Nat → Bool} {p : List Bool × List Bool} (h : Half f p.1 p.2) : Half f (stepW p).1 (stepW p).2 := by
  unfold stepW
  by_cases h0 : p.1.length = 0
  · rw [if_pos h0]; exact h
  rw [if_neg h0]
  by_cases h1 : p.1.getD (p.1.length - 1) false = p.2.getD (p.2.length - 1) false
  · rw [if_pos h1]
    obtain ⟨A, T⟩ := p
    have hs := h.some
    have ha := take_last (l := A) (by show 0 < A.length; exact Nat.pos_of_ne_zero h0)
    have ht := take_last (l := T) hs
    have hd : T.drop (T.length - 1) = [T.getD (T.length - 1) false] := by
      have e := List.take_append_drop (T.length - 1) T
      exact List.append_cancel_left (e.trans ht)
    have is := h.is
    simp only at h1 ha ht is hs ⊢
    have ll : (T.drop (T.length - 1) ++ T.take (T.length - 1)).length = T.length := by
      rw [List.length_append, List.length_drop, List.length_take]; omega
    refine ⟨by rw [ll]; exact hs, fun w => ?_, fun n q hq e => by rw [ll]; exact h.least n q hq e⟩
    rw [← is w, hd, List.singleton_append]
    rw [← item_step, ← ht, ← h1, ← ha]
  · rw [if_neg h1]; exact h
theorem Half.steps {f : Nat → Bool} : ∀ (n : Nat) {p : List Bool × List Bool}, Half f p.1 p.2 → Half f (stepsW n p).1 (stepsW n p).2
  | 0, _, h => h
  | n + 1, _, h => Half.steps n h.step
/-- the steps are at their end -/
def Done (p : List Bool × List Bool) : Prop := 0 < p.1.length → p.1.getD (p.1.length - 1) false ≠ p.2.getD (p.2.length - 1) false
theorem stepW_done {p : List Bool × List Bool} (h : Done p) : stepW p = p := by
  unfold stepW
  by_cases h0 : p.1.length = 0
  · rw [if_pos h0]
  · rw [if_neg h0, if_neg (h (by omega))]
theorem stepsW_done : ∀ (n : Nat) {p : List Bool × List Bool}, Done p → stepsW n p = p
  | 0, _, _ => rfl
  | n + 1, p, h => by
    show stepsW n (stepW p) = p
    rw [stepW_done h]
    exact stepsW_done n h
theorem steps_end : ∀ (n : Nat) (p : List Bool × List Bool), p.1.length ≤ n → Done (stepsW n p)
  | 0, p, h => fun z => by
    have z : 0 < p.1.length := z
    omega
  | n + 1, p, h => by
    by_cases hd : Done p
    · rw [stepsW_done _ hd]; exact hd
    · refine steps_end n (stepW p) ?_
      have h0 : ¬ p.1.length = 0 := fun z => hd fun y => by omega
      have h1 : p.1.getD (p.1.length - 1) false = p.2.getD (p.2.length - 1) false := Decidable.byContradiction fun z => hd fun _ => z
      unfold stepW
      rw [if_neg h0, if_pos h1]
      show (p.1.take (p.1.length - 1)).length ≤ n
      rw [List.length_take]
      omega
theorem plainF_ok {A T : List Bool} (h : 0 < T.length) : PlainOf (itemW A T) (plainF A T).1 (plainF A T).2 := by
  have l := least_ok h
  have k : Half (itemW A T) (plainF A T).1 (plainF A T).2 := Half.steps A.length (half_of (A := A) l)
  exact ⟨k.some, k.is, steps_end A.length _ (Nat.le_refl _), k.least⟩
theorem plainF_of {A T A' T' : List Bool} (h : 0 < T.length) (k : PlainOf (itemW A T) A' T') : plainF A T = (A', T') := by
  obtain ⟨a, b⟩ := (plainF_ok h).uniq k
  exact Prod.ext a b
theorem plainF_congr {A T A' T' : List Bool} (h : 0 < T.length) (h' : 0 < T'.length) (e : ∀ w, itemW A T w = itemW A' T' w) : plainF A T = plainF A' T' := by
  have q := plainF_ok (A := A') h'
  rw [← funext e] at q
  exact plainF_of h q
theorem plainF_item {A T : List Bool} (h : 0 < T.length) (w : Nat) : itemW (plainF A T).1 (plainF A T).2 w = itemW A T w := (plainF_ok h).is w
theorem plainF_pos {A T : List Bool} (h : 0 < T.length) : 0 < (plainF A T).2.length := (plainF_ok h).some
theorem plainF_twice {A T : List Bool} (h : 0 < T.length) : plainF (plainF A T).1 (plainF A T).2 = plainF A T := plainF_congr (plainF_pos h) h (plainF_item h)
theorem stepW_len (p : List Bool × List Bool) : (stepW p).1.length ≤ p.1.length ∧ (stepW p).2.length = p.2.length := by
  unfold stepW
  split
  · exact ⟨Nat.le_refl _, rfl⟩
  split
  · refine ⟨?_, ?_⟩
    · show (p.1.take _).length ≤ _
      rw [List.length_take]; omega
    · show (p.2.drop _ ++ p.2.take _).length = _
      rw [List.length_append, List.length_drop, List.length_take]; omega
  · exact ⟨Nat.le_refl _, rfl⟩
theorem stepsW_len : ∀ (n : Nat) (p : List Bool × List Bool), (stepsW n p).1.length ≤ p.1.length ∧ (stepsW n p).2.length = p.2.length
  | 0, _ => ⟨Nat.le_refl _, rfl⟩
  | n + 1, p => by
    obtain ⟨a, b⟩ := stepW_len p
    obtain ⟨c, d⟩ := stepsW_len n (stepW p)
    exact ⟨Nat.le_trans c a, d.trans b⟩
theorem plainF_len (A T : List Bool) : (plainF A T).1.length ≤ A.length ∧ (plainF A T).2.length ≤ T.length := by
  obtain ⟨a, b⟩ := stepsW_len A.length (A, T.take (leastS T))
  refine ⟨a, ?_⟩
  show (stepsW A.length (A, T.take (leastS T))).2.length ≤ _
  rw [b]
  show (T.take _).length ≤ _
  rw [List.length_take]; omega
/-! the program's way: how many items are moved, then all at once -/
theorem rot_getD {T : List Bool} {b i : Nat} (hb : b ≤ T.length) (hi : i < T.length) : (T.drop b ++ T.take b).getD i false = T.getD ((b + i) % T.length) false := by
  by_cases h : i < T.length - b
  · rw [List.getD_eq_getElem?_getD, List.getElem?_append_left (by rw [List.length_drop]; exact h), ← List.getD_eq_getElem?_getD, getD_drop, Nat.mod_eq_of_lt (by omega)]
  · rw [List.getD_eq_getElem?_getD, List.getElem?_append_right (by rw [List.length_drop]; omega), ← List.getD_eq_getElem?_getD, List.length_drop, getD_take (by omega), show b + i = (i - (T.length - b)) + T.length by omega, Nat.add_mod_right, Nat.mod_eq_of_lt (by omega)]
theorem moved {f : Nat → Bool} {A T : List Bool} {l : Nat} (h : Half f A T) (hl : l ≤ A.length) (same : ∀ j, j < l → A.getD (A.length - 1 - j) false = T.getD (T.length - 1 - j % T.length) false)
    (stop : l < A.length → A.getD (A.length - 1 - l) false ≠ T.getD (T.length - 1 - l % T.length) false) :
    PlainOf f (A.take (A.length - l)) (T.drop (T.length - l % T.length) ++ T.take (T.length - l % T.length)) := by
  have m0 := h.some
  have lm := Nat.mod_lt l m0
  have len : (T.drop (T.length - l % T.length) ++ T.take (T.length - l % T.length)).length = T.length := by
    rw [List.length_append, List.length_drop, List.length_take]; omega
  have la : (A.take (A.length - l)).length = A.length - l := by rw [List.length_take]; omega
  have ql := Nat.div_add_mod l T.length
  refine ⟨by rw [len]; exact m0, fun w => ?_, fun h0 => ?_, fun n p hp e => by rw [len]; exact h.least n p hp e⟩
  · rw [← h.is w]
    by_cases w1 : w < A.length - l
    · rw [item_lt (by rw [la]; exact w1), getD_take w1, item_lt (by omega)]
    · rw [item_ge' (by rw [la]; omega), la, len, rot_getD (by omega) (Nat.mod_lt _ m0), Nat.add_mod_mod]
      by_cases w2 : w < A.length
      · rw [item_lt w2]
        obtain ⟨j, rfl⟩ : ∃ j, w = A.length - 1 - j := ⟨A.length - 1 - w, by omega⟩
        by_cases jz : A.length - 1 < j
        · obtain ⟨j', h1, h2⟩ : ∃ j', j' = A.length - 1 ∧ A.length - 1 - j = A.length - 1 - j' := ⟨A.length - 1, rfl, by omega⟩
          rw [h2] at w1 w2 ⊢
          have hj : j' < l := by omega
          rw [same j' hj]
          congr 1
          have qj := Nat.div_add_mod j' T.length
          have mj := Nat.mod_lt j' m0
          have le : j' / T.length ≤ l / T.length := Nat.div_le_div_right (by omega)
          have e : T.length - l % T.length + (A.length - 1 - j' - (A.length - l)) = (T.length - 1 - j' % T.length) + T.length * (l / T.length - j' / T.length) := by
            rw [Nat.mul_sub]
            have := Nat.mul_le_mul_left T.length le
            omega
          rw [e, Nat.add_mul_mod_self_left, Nat.mod_eq_of_lt (by omega)]
        · have hj : j < l := by omega
          rw [same j hj]
          congr 1
          have qj := Nat.div_add_mod j T.length
          have mj := Nat.mod_lt j m0
          have le : j / T.length ≤ l / T.length := Nat.div_le_div_right (by omega)
          have e : T.length - l % T.length + (A.length - 1 - j - (A.length - l)) = (T.length - 1 - j % T.length) + T.length * (l / T.length - j / T.length) := by
            rw [Nat.mul_sub]
            have := Nat.mul_le_mul_left T.length le
            omega
          rw [e, Nat.add_mul_mod_self_left, Nat.mod_eq_of_lt (by omega)]
      · rw [item_ge' (by omega)]
        congr 1
        have e : T.length - l % T.length + (w - (A.length - l)) = (w - A.length) + T.length * (l / T.length + 1) := by
          rw [Nat.mul_succ]
          omega
        rw [e, Nat.add_mul_mod_self_left]
  · rw [la] at h0 ⊢
    rw [len, getD_take (by omega), rot_getD (by omega) (by omega)]
    have s := stop (by omega)
    rw [show T.length - l % T.length + (T.length - 1) = (T.length - 1 - l % T.length) + T.length by omega, Nat.add_mod_right, Nat.mod_eq_of_lt (by omega)]
    rw [show A.length - l - 1 = A.length - 1 - l by omega]
    exact s
/-- the two ways to ask whether a shorter list is repeated -/
theorem per_iff {T : List Bool} {s : Nat} (hs : 0 < s) (hl : s ≤ T.length) : Per T s ↔ T.length % s = 0 ∧ T.drop s = T.take (T.length - s) := by
  refine and_congr_right fun hd => ⟨fun h => ?_, fun h => ?_⟩
  · apply ext_getD
    · rw [List.length_drop, List.length_take]; omega
    · intro i hi
      rw [List.length_drop] at hi
      rw [getD_drop, getD_take hi, h _ (by omega), h i (by omega), Nat.add_mod_left]
  · intro i
    induction i using Nat.strongRecOn with
    | _ i ih =>
      intro hi
      by_cases h1 : i < s
      · rw [Nat.mod_eq_of_lt h1]
      · have e : (T.drop s).getD (i - s) false = (T.take (T.length - s)).getD (i - s) false := by rw [h]
        rw [getD_drop, getD_take (by omega), show s + (i - s) = i by omega] at e
        rw [e, ih (i - s) (by omega) (by omega), Nat.mod_eq_sub_mod (show s ≤ i by omega)]
theorem getD_rep {T : List Bool} : ∀ (k i : Nat), i < k * T.length → (List.replicate k T).flatten.getD i false = T.getD (i % T.length) false
  | 0, i, h => by omega
  | k + 1, i, h => by
    rw [List.replicate_succ, List.flatten_cons]
    by_cases h1 : i < T.length
    · rw [List.getD_eq_getElem?_getD, List.getElem?_append_left h1, ← List.getD_eq_getElem?_getD, Nat.mod_eq_of_lt h1]
    · rw [List.getD_eq_getElem?_getD, List.getElem?_append_right (by omega), ← List.getD_eq_getElem?_getD, getD_rep k (i - T.length) (by rw [Nat.succ_mul] at h; omega), ← Nat.mod_eq_sub_mod (by omega)]
theorem len_rep {T : List Bool} (k : Nat) : (List.replicate k T).flatten.length = k * T.length := by
  rw [List.length_flatten, List.map_replicate, List.sum_replicate_nat]
theorem per_iff_rep {T : List Bool} {s : Nat} (hs : 0 < s) (hl : s ≤ T.length) (hd : T.length % s = 0) : Per T s ↔ T = (List.replicate (T.length / s) (T.take s)).flatten := by
  have lt : (T.take s).length = s := by rw [List.length_take]; omega
  have e : T.length / s * s = T.length := Nat.div_mul_cancel (Nat.dvd_of_mod_eq_zero hd)
  have g : ∀ i, i < T.length → (List.replicate (T.length / s) (T.take s)).flatten.getD i false = T.getD (i % s) false := fun i hi => by
    rw [getD_rep _ _ (by rw [lt, e]; exact hi), lt, getD_take (Nat.mod_lt _ hs)]
  refine ⟨fun h => ?_, fun h => ⟨hd, fun i hi => ?_⟩⟩
  · apply ext_getD
    · rw [len_rep, lt, e]
    · intro i hi
      rw [h.2 i hi, g i hi]
  · rw [← g i hi, ← h]
theorem item_rep {A T : List Bool} {k : Nat} (hk : 0 < k) (h : 0 < T.length) (w : Nat) : itemW A (List.replicate k T).flatten w = itemW A T w := by
  by_cases hw : w < A.length
  · rw [item_lt hw, item_lt hw]
  · have hw : A.length ≤ w := by omega
    have p : 0 < k * T.length := Nat.mul_pos hk h
    rw [item_ge' hw, item_ge' hw, len_rep, getD_rep _ _ (Nat.mod_lt _ p), Nat.mod_mod_of_dvd _ (Nat.dvd_mul_left ..)]
/-- what the law puts longer -/
def longW (p : List Bool × List Bool) : List Bool × List Bool := (p.1 ++ p.2.take 1, p.2.drop 1 ++ p.2.take 1)
theorem longW_item (p : List Bool × List Bool) (h : 0 < p.2.length) (w : Nat) : itemW (longW p).1 (longW p).2 w = itemW p.1 p.2 w := by
  obtain ⟨A, T⟩ := p
  cases T with
  | nil => cases h
  | cons b T => exact item_step A T b w
theorem longW_len (p : List Bool × List Bool) (h : 0 < p.2.length) : (longW p).1.length = p.1.length + 1 ∧ (longW p).2.length = p.2.length := by
  obtain ⟨A, T⟩ := p
  cases T with
  | nil => cases h
  | cons b T => simp [longW]
end Hw
namespace Hw
theorem least_first {T : List Bool} (h : 0 < T.length) : ((List.range' 1 T.length).filter fun s => decide (Per T s))[0]? = some (leastS T) := by
  have e : ((List.range' 1 T.length).filter fun s => decide (Per T s))[0]? = (List.range' 1 T.length).find? fun s => decide (Per T s) := by
    rw [← List.head?_filter]
    cases (List.range' 1 T.length).filter fun s => decide (Per T s) <;> rfl
  rw [e]
  unfold leastS
  cases z : (List.range' 1 T.length).find? fun s => decide (Per T s) with
  | none =>
    have := List.find?_eq_none.mp z T.length (List.mem_range'_1.mpr (by omega))
    exact absurd (Per.all T) (by simpa using this)
  | some s => rfl
theorem stepsW_last : ∀ (n : Nat) (p : List Bool × List Bool), stepsW (n + 1) p = stepW (stepsW n p)
  | 0, _ => rfl
  | n + 1, p => stepsW_last n (stepW p)
theorem stepsW_nil : ∀ (n : Nat) (p : List Bool × List Bool), p.1 = [] → stepsW n p = p
  | 0, _, _ => rfl
  | n + 1, p, h => by
    have e : stepW p = p := by unfold stepW; rw [if_pos (by rw [h]; rfl)]
    show stepsW n (stepW p) = p
    rw [e]
    exact stepsW_nil n p h
theorem stepsW_add : ∀ (m n : Nat) (p : List Bool × List Bool), stepsW (m + n) p = stepsW n (stepsW m p)
  | 0, n, p => by rw [Nat.zero_add]; rfl
  | m + 1, n, p => by
    rw [show m + 1 + n = (m + n) + 1 by omega]
    exact stepsW_add m n (stepW p)
theorem range'_snoc (n : Nat) : List.range' 1 (n + 1) = List.range' 1 n ++ [n + 1] := by
  rw [List.range'_1_concat, Nat.add_comm]
end Hw

set_option Elab.async false
set_option linter.all false
set_option maxRecDepth 100000
set_option maxHeartbeats 4000000
/-! lists of Booleans, sets of widths as data; repr of data with dicts in it -/
namespace Hw
open PySem PySem.Spec PyProof.Rows L2
abbrev blV (l : List Bool) : List V := l.map V.bl
abbrev blD (l : List Bool) : List PyData := l.map PyData.bool
abbrev wdD (A T : List Bool) : PyData := .tuple [.list (blD A), .list (blD T)]
theorem Dt.bls_at {H : Hp} {x : V} {l : List Bool} (h : Dt H x (.list (blD l))) : ∃ a, x = .ref a ∧ H a = some (.lst (blV l)) := by
  cases h with
  | @lst a xs _ ha hs =>
    have e := DtAll.bls_inv _ _ hs
    subst e
    exact ⟨a, rfl, ha⟩
theorem Dt.wd {H : Hp} {x : V} {A T : List Bool} (h : Dt H x (wdD A T)) : ∃ a p q, x = .ref a ∧ H a = some (.tup [.ref p, .ref q]) ∧ H p = some (.lst (blV A)) ∧ H q = some (.lst (blV T)) := by
  cases h with
  | @tup a xs ds ha hs =>
  cases hs with
  | cons h1 hs =>
  cases hs with
  | cons h2 hs =>
  cases hs with
  | nil =>
  obtain ⟨p, rfl, hp⟩ := h1.bls_at
  obtain ⟨q, rfl, hq⟩ := h2.bls_at
  exact ⟨a, p, q, rfl, ha, hp, hq⟩
theorem Dt.bls {H : Hp} {a : Addr} {l : List Bool} (h : H a = some (.lst (blV l))) : Dt H (.ref a) (.list (blD l)) := .lst h (DtAll.bls l)
theorem Dt.wd_of {H : Hp} {a p q : Addr} {A T : List Bool} (ha : H a = some (.tup [.ref p, .ref q])) (hp : H p = some (.lst (blV A))) (hq : H q = some (.lst (blV T))) : Dt H (.ref a) (wdD A T) :=
  .tup ha (.cons (.bls hp) (.cons (.bls hq) .nil))
theorem bl_at {l : List Bool} {i : Nat} (h : i < l.length) : (blV l)[i]? = some (.bl (l.getD i false)) := by
  rw [List.getElem?_map, List.getElem?_eq_getElem h, getD_lt h]
  rfl
theorem bl_get {l : List Bool} {i : Nat} {x : V} (h : (blV l)[i]? = some x) : i < l.length ∧ x = .bl (l.getD i false) := by
  have hi : i < l.length := by
    have := (List.getElem?_eq_some_iff.mp h).1
    rwa [List.length_map] at this
  rw [bl_at hi] at h
  exact ⟨hi, (Option.some.inj h).symm⟩
/-- from the end -/
theorem bl_back {l : List Bool} {j : Nat} (h : j < l.length) : atI (blV l) (-1 - (j : Int)) = some (.bl (l.getD (l.length - 1 - j) false)) := by
  have hl : (blV l).length = l.length := List.length_map ..
  unfold atI
  rw [show ixN (blV l).length (-1 - (j : Int)) = some (l.length - 1 - j) by
    unfold ixN
    rw [hl, if_neg (by omega), if_pos (by omega)]
    congr 1
    omega]
  exact bl_at (by omega)
theorem blV_drop (l : List Bool) (n : Nat) : blV (l.drop n) = (blV l).drop n := List.map_drop ..
theorem blV_take (l : List Bool) (n : Nat) : blV (l.take n) = (blV l).take n := List.map_take ..
theorem blV_rep (n : Nat) (l : List Bool) : (List.replicate n (blV l)).flatten = blV (List.replicate n l).flatten := by
  show _ = List.map V.bl _
  rw [List.map_flatten, List.map_replicate]
theorem cut_from (l : List Bool) {n : Nat} (h : n ≤ l.length) : cutV (blV l) (some (n : Int)) none = blV (l.drop n) := by
  unfold cutV
  rw [HT.sIx_none, HT.sIx_nat, List.length_map, Nat.min_eq_left h, blV_drop, List.take_of_length_le (by rw [List.length_drop, List.length_map]; omega)]
theorem cut_to (l : List Bool) (n : Nat) : cutV (blV l) none (some (n : Int)) = blV (l.take n) := by
  unfold cutV
  rw [HT.sIx_none, HT.sIx_nat, List.length_map, List.drop_zero, Nat.sub_zero, blV_take]
  by_cases h : n ≤ l.length
  · rw [Nat.min_eq_left h]
  · rw [Nat.min_eq_right (by omega), List.take_of_length_le (by rw [List.length_map]; omega), List.take_of_length_le (by rw [List.length_map]; omega)]
theorem cut_back (l : List Bool) {n : Nat} (h : 0 < n) (hl : n ≤ l.length) : cutV (blV l) none (some (-(n : Int))) = blV (l.take (l.length - n)) := by
  have e : HT.sIx l.length l.length (some (-(n : Int))) = l.length - n := by
    show (if -(n : Int) < 0 then (-(n : Int) + (l.length : Int)).toNat else min (-(n : Int)).toNat l.length) = _
    rw [if_pos (by omega)]
    omega
  unfold cutV
  rw [HT.sIx_none, List.length_map, e, List.drop_zero, Nat.sub_zero, blV_take]
/-! == -/
theorem eqv_bls : ∀ a b : List Bool, PyData.eqvAll (blD a) (blD b) = decide (a = b)
  | [], [] => by simp [PyData.eqvAll]
  | [], _ :: _ => by simp [PyData.eqvAll]
  | _ :: _, [] => by simp [PyData.eqvAll]
  | x :: a, y :: b => by
    have ih := eqv_bls a b
    simp only [List.map_cons, PyData.eqvAll, PyData.eqv] at ih ⊢
    rw [ih]
    by_cases h : x = y
    · by_cases h2 : a = b
      · rw [h, h2]; simp
      · simp [h, h2]
    · simp [h]
theorem eqv_bl (a b : List Bool) : PyData.eqv (.list (blD a)) (.list (blD b)) = decide (a = b) := by
  rw [← eqv_bls a b]
  simp only [PyData.eqv]
theorem canLay_bls : ∀ l : List Bool, PyData.canLayAll0 (blD l) = true
  | [] => rfl
  | _ :: r => by show (true && PyData.canLayAll0 (blD r)) = true; rw [canLay_bls r]; rfl
theorem depth_bls : ∀ l : List Bool, PyData.depthAll (blD l) = 0
  | [] => by simp only [List.map_nil, PyData.depthAll]
  | x :: r => by
    show PyData.depthAll (PyData.bool x :: blD r) = 0
    simp only [PyData.depthAll, PyData.depth, depth_bls r]
    decide
theorem shaped_bls (l : List Bool) : SeqAt.shaped (.list (blD l)) = true := by
  have h3 : PyData.canLay0 (.list (blD l)) = true := by simp only [PyData.canLay0]; exact canLay_bls l
  have h4 : PyData.depth (.list (blD l)) ≤ 64 := by simp only [PyData.depth, depth_bls]; omega
  show (PyData.canLay0 _ && decide (PyData.depth _ ≤ 64)) = true
  rw [h3, decide_eq_true h4]
  rfl
/-- == of lists of Booleans -/
theorem eq_bls {H : Hp} {Q : VK} {a b : Addr} {l m : List Bool} (ha : H a = some (.lst (blV l))) (hb : H b = some (.lst (blV m))) (q : Q (.bl (decide (l = m))) H) : rEqT (.ref a) (.ref b) H Q :=
  ⟨_, _, .bls ha, .bls hb, shaped_bls l, shaped_bls m, by rw [eqv_bl]; exact q⟩
theorem ne_bls {H : Hp} {Q : VK} {a b : Addr} {l m : List Bool} (ha : H a = some (.lst (blV l))) (hb : H b = some (.lst (blV m))) (q : Q (.bl (!decide (l = m))) H) : rNeT (.ref a) (.ref b) H Q :=
  ⟨_, _, .bls ha, .bls hb, shaped_bls l, shaped_bls m, by rw [eqv_bl]; exact q⟩
/-! sizes -/
theorem Bnd.bls {l : List Bool} {n : Nat} (h : l.length ≤ n) : Bnd 1 n (.list (blD l)) := by
  refine Bnd.list (k := 0) (b := 0) (n := n) (fun d hd => ?_) (by rw [List.length_map]; exact h) (by omega)
  obtain ⟨x, _, rfl⟩ := List.mem_map.mp hd
  exact .bl x
theorem Bnd.wd {A T : List Bool} {n : Nat} (h : A.length ≤ n) (h' : T.length ≤ n) : Bnd 2 (2 * (n + 1)) (wdD A T) := by
  refine Bnd.tuple (k := 1) (b := n) (n := 2) (fun d hd => ?_) (Nat.le_refl _) (Nat.le_refl _)
  simp only [List.mem_cons, List.not_mem_nil, or_false] at hd
  rcases hd with rfl | rfl
  · exact .bls h
  · exact .bls h'
theorem wd_nice {A T : List Bool} (h : A.length ≤ 1000) (h' : T.length ≤ 1000) : Nice (wdD A T) := (Bnd.wd h h').nice (by decide) (by decide)
/-! ### repr of data that has dicts anywhere in it -/
section
variable {X : Cx} {pins : List (Addr × Obj)} {σ : L2.St} {H : Hp} {s : Shared}
mutual
theorem Dt.reads2 (I : Inv X pins σ H s) : ∀ (d : PyData) (v : V) (u : Value), Dt H v d → RelV v u → ∃ as, Reads s.heap u d as ∧ ∀ a ∈ as, H a ≠ none
  | .none, _, _, h, r => by
    cases h
    cases r
    exact ⟨_, Reads.none, fun _ z => nomatch z⟩
  | .bool b, _, _, h, r => by
    cases h
    cases r
    exact ⟨_, Reads.bool b, fun _ z => nomatch z⟩
  | .int i, _, _, h, r => by
    cases h
    obtain ⟨t, rfl⟩ := r
    exact ⟨_, Reads.int i t, fun _ z => nomatch z⟩
  | .str x, _, _, h, r => by
    cases h
    obtain ⟨t, rfl⟩ := r
    exact ⟨_, Reads.str x t, fun _ z => nomatch z⟩
  | .list ds, _, _, h, r => by
    cases h with
    | lst hs ha =>
      cases r
      obtain ⟨its, rv, ⟨o, n, ho, hc, _, hd⟩, _⟩ := I.list (X := X) (show SqL X.K H _ _ from .inl (.inl hs))
      obtain ⟨as, hr, hn⟩ := Dt.reads2All I ds _ its ha rv
      refine ⟨_, Reads.list ho hc hd hr, fun a z => ?_⟩
      rcases List.mem_cons.mp z with z | z
      · rw [z, hs]
        exact fun y => nomatch y
      · exact hn a z
  | .tuple ds, _, _, h, r => by
    cases h with
    | tup hs ha =>
      cases r
      obtain ⟨its, rv, ⟨o, ho, hc, n, hd⟩, _⟩ := I.tuple (X := X) (show SqT X.K H _ _ from .inl (.inl hs))
      obtain ⟨as, hr, hn⟩ := Dt.reads2All I ds _ its ha rv
      exact ⟨_, Reads.tuple ho hc hd hr, hn⟩
  | .dict ds, _, _, h, r => by
    cases h with
    | dic kvs hs =>
      cases r
      obtain ⟨_, ns, vs, kv, o, es, ep, ho, hx, hd, _, pr, _⟩ := dk_of I.hok hs
      obtain ⟨a, b⟩ := readsKV (h := s.heap) kvs vs es.toList kv pr
      refine ⟨_, Reads.dict ho hx.1 hd a b, fun c z => ?_⟩
      simp only [List.append_nil, List.mem_singleton] at z
      rw [z, hs]
      exact fun y => nomatch y
theorem Dt.reads2All (I : Inv X pins σ H s) : ∀ (ds : List PyData) (vs : List V) (us : List Value), DtAll H vs ds → Vals vs us → ∃ as, ReadsAll s.heap us ds as ∧ ∀ a ∈ as, H a ≠ none
  | [], _, _, h, r => by
    cases h
    cases r
    exact ⟨_, ReadsAll.nil, fun _ z => nomatch z⟩
  | d :: ds, _, _, h, r => by
    cases h with
    | cons h1 h2 =>
      cases r with
      | cons r1 r2 =>
        obtain ⟨as, q1, n1⟩ := Dt.reads2 I d _ _ h1 r1
        obtain ⟨bs, q2, n2⟩ := Dt.reads2All I ds _ _ h2 r2
        exact ⟨_, ReadsAll.cons q1 q2, fun a z => (List.mem_append.mp z).elim (n1 a) (n2 a)⟩
end
theorem Inv.noSys (I : Inv X pins σ H s) (h : (X.K.lookup sysModules).isSome = true) : H sysModules = none := by
  obtain ⟨o, e⟩ := Option.isSome_iff_exists.mp h
  exact (I.bs _ _ (I.mod.kin _ _ e)).2
/-- data whose repr can be told, dicts anywhere -/
structure ShowsN (d : PyData) : Prop where
  show_ : d.showable = true
  fits : d.shown.length ≤ sizeLine
  deep : d.depth ≤ 60
theorem Nice.showsN {d : PyData} (n : Nice d) : ShowsN d := ⟨n.shows.show_, n.fits, n.deep⟩
def rReprN : List V → Hp → VK → Prop := fun xs H Q => ∃ (x : V) (d : PyData), xs = [x] ∧ Dt H x d ∧ ShowsN d ∧ Q (.str d.shown) H
theorem call_reprN {K : PySem.W.Frag} (hK : X.K = K) (hsys : (K.lookup sysModules).isSome = true) (gd : Gd X.A) (hu : X.A.units + 64 < cLine) : CallR X (.builtin "repr") rReprN := by
  subst hK
  intro pins s σ H xs us Q I r h
  obtain ⟨x, d, rfl, dp, nice, q⟩ := h
  have sh := nice.show_
  have sz := nice.fits
  have dep := nice.deep
  obtain ⟨u, rfl, ru⟩ := vals1 r
  obtain ⟨as, rd, nm⟩ := Dt.reads2 I d x u dp ru
  have hsm : d.hasDict = true → sysModules ∉ as := fun _ z => nm _ z (Inv.noSys I hsys)
  cases dp with
  | non => cases (show u = Value.none from ru); exact PySem.P.repr_of_none ⟨.str _, H, I.tok _, ⟨_, rfl⟩, q⟩
  | bl b => cases (show u = Value.bool b from ru); exact PySem.P.repr_of_bool ⟨.str _, H, I.tok _, ⟨_, rfl⟩, by simpa only [PyData.shown] using q⟩
  | int i => obtain ⟨t, rfl⟩ := ru; exact PySem.P.repr_of_int (by simpa only [PyData.showable, decide_eq_true_eq] using sh) ⟨.str _, H, I.tok _, ⟨_, rfl⟩, by simpa only [PyData.shown] using q⟩
  | str z => obtain ⟨t, rfl⟩ := ru; exact PySem.P.repr_of_str ⟨.str _, H, I.tok _, ⟨_, rfl⟩, by simpa only [PyData.shown] using q⟩ (by simpa only [PyData.shown] using sz)
  | @lst a xs ds e1 e2 =>
    cases (show u = Value.ref a from ru)
    exact repr_of_reads' rd sh hsm gd (by omega) (fun _ _ e => e) (fun h' u tk hk => ⟨.str _, H, I.kept hk, ⟨_, rfl⟩, q⟩) sz
  | @tup a xs ds e1 e2 =>
    cases (show u = Value.ref a from ru)
    exact repr_of_reads' rd sh hsm gd (by omega) (fun _ _ e => e) (fun h' u tk hk => ⟨.str _, H, I.kept hk, ⟨_, rfl⟩, q⟩) sz
  | @dic a kvs e1 =>
    cases (show u = Value.ref a from ru)
    exact repr_of_reads' rd sh hsm gd (by omega) (fun _ _ e => e) (fun h' u tk hk => ⟨.str _, H, I.kept hk, ⟨_, rfl⟩, q⟩) sz
end
theorem bl_showsN (b : Bool) : ShowsN (.bool b) := ((Bnd.bl (k := 0) (b := 0) b).nice (by decide) (by decide)).showsN
theorem int_showsN {i : Int} (h : i.natAbs < 10 ^ 38) : ShowsN (.int i) := (Nice.int h).showsN
end Hw
namespace Hw
open PySem PySem.Spec PyProof.Rows L2
/-! ### data laid anew, told exactly, over what stands already -/
/-- what is rested on stays while new things are laid -/
def StS (S : Hp → Prop) : Prop := ∀ H H', S H → Same H H' → S H'
section
variable {S : Hp → Prop} {σ : L2.St} {ds es : List PyData} {d : PyData} {te tf : TE} {ta : TA} {i : Nat} {K : PySem.W.Frag}
theorem Ex.int (i : Int) : Ev S (Ed (.int i)) (tC (.int i)) σ := fun H Q _ q => q _ H (Same.refl H) (.int i)
theorem Ex.bl (b : Bool) : Ev S (Ed (.bool b)) (tC (.bl b)) σ := fun H Q _ q => q _ H (Same.refl H) (.bl b)
theorem Ex.str (x : Str) : Ev S (Ed (.str x)) (tC (.str x)) σ := fun H Q _ q => q _ H (Same.refl H) (.str x)
theorem Ex.non : Ev S (Ed .none) (tC .non) σ := fun H Q _ q => q _ H (Same.refl H) .non
theorem Ex.var {x : V} (h : σ[i]? = some (some x)) (hx : ∀ H, S H → Dt H x d) : Ev S (Ed d) (tVar i) σ := fun H Q s q => ⟨x, h, q x H (Same.refl H) (hx H s)⟩
theorem Ex.nil : Eva S (Eda []) tNil σ := fun H Q _ q => q _ H (Same.refl H) .nil
theorem Ex.cons (st : StS S) (h : Ev S (Ed d) te σ) (r : Eva S (Eda ds) ta σ) : Eva S (Eda (d :: ds)) (tCons te ta) σ := fun H Q s q => h H _ s fun x H1 e1 p1 => r H1 _ (st _ _ s e1) fun xs H2 e2 p2 => q _ H2 (e1.trans e2) (.cons (Dt.to p1 e2) p2)
theorem Ex.lst (h : Eva S (Eda ds) ta σ) (hn : ds.length ≤ 100000 := by decide) : Ev S (Ed (.list ds)) (tLst ta) σ := fun H Q s q => h H _ s fun xs H1 e1 p1 => by
  have p1 : DtAll H1 xs ds := p1
  refine ⟨by rw [p1.len, sizeLine_eq]; omega, fun p hp => ?_⟩
  have e2 := same_new' (o := .lst xs) hp
  exact q _ _ (e1.trans e2) (Dt.lst upd_same (p1.to e2))
theorem Ex.tup (h : Eva S (Eda ds) ta σ) (hn : ds.length ≤ 100000 := by decide) : Ev S (Ed (.tuple ds)) (tTup ta) σ := fun H Q s q => h H _ s fun xs H1 e1 p1 => by
  have p1 : DtAll H1 xs ds := p1
  refine ⟨by rw [p1.len, sizeLine_eq]; omega, fun p hp => ?_⟩
  have e2 := same_new' (o := .tup xs) hp
  exact q _ _ (e1.trans e2) (Dt.tup upd_same (p1.to e2))
theorem Ex.dnew : Ev S (Ed (.dict [])) tDNewK σ := fun H Q s q p hp => q _ _ (same_new' hp) (.dic [] upd_same)
theorem Dt.tup_at {H : Hp} {x : V} {ds : List PyData} (h : Dt H x (.tuple ds)) : ∃ a xs, x = .ref a ∧ H a = some (.tup xs) ∧ DtAll H xs ds := by
  cases h with
  | @tup a xs _ ha hs => exact ⟨a, xs, rfl, ha, hs⟩
theorem Dt.lst_at {H : Hp} {x : V} {ds : List PyData} (h : Dt H x (.list ds)) : ∃ a xs, x = .ref a ∧ H a = some (.lst xs) ∧ DtAll H xs ds := by
  cases h with
  | @lst a xs _ ha hs => exact ⟨a, xs, rfl, ha, hs⟩
theorem DtAll.at {H : Hp} : ∀ {vs : List V} {ds : List PyData}, DtAll H vs ds → ∀ (i : Nat) (d : PyData), ds[i]? = some d → ∃ v, vs[i]? = some v ∧ Dt H v d
  | _, _, .nil, i, d, h => by simp at h
  | _, _, .cons h1 r, 0, d, h => by
    have e := Option.some.inj (show some _ = some d from h)
    subst e
    exact ⟨_, rfl, h1⟩
  | _, _, .cons _ r, i + 1, d, h => r.at i d h
theorem Ex.ixT {n : Nat} (h : Ev S (Ed (.tuple ds)) te σ) (hi : ds[n]? = some d) : Ev S (Ed d) (tOp (rIxT K) te (tC (.int (n : Int)))) σ := fun H Q s q => h H _ s fun x H1 e1 p1 => by
  obtain ⟨a, xs, rfl, ha, hs⟩ := Dt.tup_at p1
  obtain ⟨v, hv, hd⟩ := hs.at n d hi
  exact ⟨a, xs, n, v, rfl, rfl, .inl (.inl ha), atI_nat hv, q _ H1 e1 hd⟩
theorem Ex.listT (h : Ev S (Ed (.tuple ds)) te σ) : Ev S (Ed (.list ds)) (tCB (rListK K) (tCons te tNil)) σ := fun H Q s q => h H _ s fun x H1 e1 p1 => by
  obtain ⟨a, xs, rfl, ha, hs⟩ := Dt.tup_at p1
  refine ⟨a, xs, rfl, .inr (.inl (.inl ha)), fun p hp => ?_⟩
  have e2 := same_new' (o := .lst xs) hp
  exact q _ _ (e1.trans e2) (Dt.lst upd_same (hs.to e2))
theorem Ex.tupL (h : Ev S (Ed (.list ds)) te σ) : Ev S (Ed (.tuple ds)) (tCB (rTupK K) (tCons te tNil)) σ := fun H Q s q => h H _ s fun x H1 e1 p1 => by
  obtain ⟨a, xs, rfl, ha, hs⟩ := Dt.lst_at p1
  refine ⟨a, xs, rfl, .inl ⟨.inl (.inl ha), fun p hp => ?_⟩⟩
  have e2 := same_new' (o := .tup xs) hp
  exact q _ _ (e1.trans e2) (Dt.tup upd_same (hs.to e2))
theorem Ex.cutT {n : Nat} (h : Ev S (Ed (.tuple ds)) te σ) : Ev S (Ed (.tuple (ds.take n))) (L2.tSl (rSlA K) te tNoPart (tPart (tC (.int (n : Int))))) σ := fun H Q s q => h H _ s fun x H1 e1 p1 => by
  obtain ⟨a, xs, rfl, ha, hs⟩ := Dt.tup_at p1
  have hl := hs.len
  refine ⟨n, rfl, a, xs, rfl, .inl (.inl ha), fun z => ?_, fun _ p hp => ?_⟩
  · have : n ≥ xs.length := by
      have z2 := z.2
      rw [HT.sIx_nat] at z2
      omega
    rw [List.take_of_length_le (by omega)] at q
    exact q _ H1 e1 (Dt.tup ha hs)
  · have ec : cutV xs none (some (n : Int)) = xs.take n := by
      unfold cutV
      rw [HT.sIx_none, HT.sIx_nat, List.drop_zero, Nat.sub_zero]
      by_cases h : n ≤ xs.length
      · rw [Nat.min_eq_left h]
      · rw [Nat.min_eq_right (by omega), List.take_of_length_le (Nat.le_refl _), List.take_of_length_le (by omega)]
    rw [ec]
    have e2 := same_new' (o := .tup (xs.take n)) hp
    exact q _ _ (e1.trans e2) (Dt.tup upd_same ((hs.take n).to e2))
theorem Ex.cat (st : StS S) (h : Ev S (Ed (.list ds)) te σ) (k : Ev S (Ed (.list es)) tf σ) (hn : ds.length + es.length ≤ 100000) : Ev S (Ed (.list (ds ++ es))) (tOp rCat te tf) σ := fun H Q s q => h H _ s fun x H1 e1 p1 => k H1 _ (st _ _ s e1) fun y H2 e2 p2 => by
  obtain ⟨a, xs, rfl, ha, hs⟩ := Dt.lst_at (Dt.to p1 e2)
  obtain ⟨b, ys, rfl, hb, ht⟩ := Dt.lst_at p2
  refine ⟨a, b, xs, ys, rfl, rfl, ha, hb, by rw [hs.len, ht.len, sizeLine_eq]; omega, fun p hp => ?_⟩
  have e3 := same_new' (o := .lst (xs ++ ys)) hp
  exact q _ _ ((e1.trans e2).trans e3) (Dt.lst upd_same ((hs.app ht).to e3))
theorem Ex.catT (st : StS S) (h : Ev S (Ed (.tuple ds)) te σ) (k : Ev S (Ed (.tuple es)) tf σ) (hn : ds.length + es.length ≤ 100000) : Ev S (Ed (.tuple (ds ++ es))) (tOp (rCatA K) te tf) σ := fun H Q s q => h H _ s fun x H1 e1 p1 => k H1 _ (st _ _ s e1) fun y H2 e2 p2 => by
  obtain ⟨a, xs, rfl, ha, hs⟩ := Dt.tup_at (Dt.to p1 e2)
  obtain ⟨b, ys, rfl, hb, ht⟩ := Dt.tup_at p2
  refine ⟨a, b, xs, ys, rfl, rfl, .inl (.inl ha), .inl (.inl hb), by rw [hs.len, ht.len, sizeLine_eq]; omega, fun z => ?_, fun z1 z2 => ?_, fun _ _ p hp => ?_⟩
  · subst z
    cases hs
    exact q _ H2 (e1.trans e2) (Dt.tup hb ht)
  · subst z2
    cases ht
    rw [List.append_nil] at q
    exact q _ H2 (e1.trans e2) (Dt.tup ha hs)
  · have e3 := same_new' (o := .tup (xs ++ ys)) hp
    exact q _ _ ((e1.trans e2).trans e3) (Dt.tup upd_same ((hs.app ht).to e3))
end
end Hw
namespace Hw
open PySem PySem.Spec PyProof.Rows L2
/-! ### bounds, item by item -/
def AllB (k b : Nat) (ds : List PyData) : Prop := ∀ d ∈ ds, Bnd k b d
theorem AllB.nil {k b : Nat} : AllB k b [] := fun d h => nomatch h
theorem AllB.cons {k b k' b' : Nat} {d : PyData} {ds : List PyData} (h : Bnd k' b' d) (r : AllB k b ds) (hk : k' ≤ k := by decide) (hb : b' ≤ b := by decide) : AllB k b (d :: ds) := fun x hx => by
  rcases List.mem_cons.mp hx with e | e
  · rw [e]; exact h.up hk hb
  · exact r x e
theorem AllB.app {k b : Nat} {ds es : List PyData} (h : AllB k b ds) (r : AllB k b es) : AllB k b (ds ++ es) := fun x hx => (List.mem_append.mp hx).elim (h x) (r x)
theorem AllB.bls {k b : Nat} (l : List Bool) : AllB k b (blD l) := fun x hx => by
  obtain ⟨y, _, rfl⟩ := List.mem_map.mp hx
  exact .bl y
theorem Bnd.lst {k b n c : Nat} {ds : List PyData} (h : AllB k b ds) (hl : ds.length ≤ n) (hc : n * (b + 1) ≤ c := by decide) : Bnd (k + 1) c (.list ds) := Bnd.list h hl hc
theorem Bnd.tup {k b n c : Nat} {ds : List PyData} (h : AllB k b ds) (hl : ds.length ≤ n) (hc : n * (b + 1) ≤ c := by decide) : Bnd (k + 1) c (.tuple ds) := Bnd.tuple h hl hc
/-- a list of Booleans and one thing more -/
theorem Bnd.blsP {l : List Bool} {d : PyData} {n : Nat} (h : l.length ≤ n) (hd : Bnd 0 0 d) : Bnd 1 (n + 1) (.list (blD l ++ [d])) :=
  Bnd.list (k := 0) (b := 0) (n := n + 1) (AllB.app (AllB.bls l) (AllB.cons hd AllB.nil)) (by rw [List.length_append, List.length_map]; show l.length + 1 ≤ _; omega) (by omega)
theorem Bnd.blsT {l : List Bool} {n : Nat} (h : l.length ≤ n) : Bnd 1 n (.tuple (blD l)) := Bnd.tuple (k := 0) (b := 0) (n := n) (AllB.bls l) (by rw [List.length_map]; exact h) (by omega)
end Hw

set_option Elab.async false
set_option linter.all false
set_option maxRecDepth 100000
set_option maxHeartbeats 4000000
/-! sorted of lists of ints, any number of them -/
namespace Hw
open PySem PySem.Spec PyProof.Rows L2
/-- l before m, number by number -/
def lexI : List Int → List Int → Bool
  | [], [] => false
  | [], _ :: _ => true
  | _ :: _, [] => false
  | x :: l, y :: m => if x = y then lexI l m else decide (x < y)
theorem lexI_irr : ∀ l, lexI l l = false
  | [] => rfl
  | x :: l => by rw [lexI, if_pos rfl]; exact lexI_irr l
theorem toks_lex : ∀ l m : List Int, PyProof.Rows.lexLt itemOrd (PySem.W.keyToksAll (l.map PyData.int)) (PySem.W.keyToksAll (m.map PyData.int)) = lexI l m
  | [], [] => by decide +kernel
  | [], y :: m => by
    simp only [List.map_nil, List.map_cons, PySem.W.keyToksAll, PySem.W.keyToks, lexI]
    rw [lex_diff (O := itemOrd) (by simp)]
    rfl
  | x :: l, [] => by
    simp only [List.map_nil, List.map_cons, PySem.W.keyToksAll, PySem.W.keyToks, lexI]
    rw [lex_diff (O := itemOrd) (by simp)]
    rfl
  | x :: l, y :: m => by
    have ih := toks_lex l m
    simp only [List.map_nil, List.map_cons, PySem.W.keyToksAll, PySem.W.keyToks, lexI]
    rw [lex_self (O := itemOrd)]
    show PyProof.Rows.lexLt itemOrd (Sum.inl x :: PySem.W.keyToksAll (l.map PyData.int)) (Sum.inl y :: PySem.W.keyToksAll (m.map PyData.int)) = _
    by_cases h : x = y
    · subst h
      rw [lex_self (O := itemOrd), if_pos rfl, ih]
    · rw [lex_diff (O := itemOrd) (fun z => h (Sum.inl.inj z)), if_neg h]
      rfl
theorem lt_lists (l m : List Int) : PySem.W.dataLt (.list (l.map PyData.int)) (.list (m.map PyData.int)) = lexI l m := by
  rw [PySem.W.dataLt_list, toks_lex]
theorem alike_ints : ∀ l m : List Int, PySem.W.alikeAll (l.map PyData.int) (m.map PyData.int) = true
  | [], _ => by simp only [List.map_nil, PySem.W.alikeAll]
  | x :: l, [] => by simp only [List.map_nil, List.map_cons, PySem.W.alikeAll]
  | x :: l, y :: m => by simp only [List.map_cons, PySem.W.alikeAll, PySem.W.alike, alike_ints l m, Bool.and_self]
theorem swo_lexI (k : Value → List Int) : SrtO.Swo fun v u => lexI (k v) (k u) := by
  refine ⟨fun x y h => ?_, fun x y z h1 h2 => ?_⟩
  · rw [← toks_lex] at h ⊢
    cases z : PyProof.Rows.lexLt itemOrd (PySem.W.keyToksAll ((k y).map PyData.int)) (PySem.W.keyToksAll ((k x).map PyData.int)) with
    | false => rfl
    | true =>
      have := lex_trans _ _ _ h z
      rw [lex_irrefl] at this
      cases this
  · rw [← toks_lex] at h1 h2 ⊢
    cases z' : PyProof.Rows.lexLt itemOrd (PySem.W.keyToksAll ((k z).map PyData.int)) (PySem.W.keyToksAll ((k x).map PyData.int)) with
    | false => rfl
    | true =>
      rcases lex_negTrans _ (PySem.W.keyToksAll ((k y).map PyData.int)) _ z' with a | a
      · rw [a] at h2; cases h2
      · rw [a] at h1; cases h1
/-- a list of ints in the heap -/
def IsLI (h : Heap) (v : Value) (l : List Int) : Prop := ∃ (b : Addr) (o : Obj) (its : List Value) (n : Nat), v = .ref b ∧ h.get? b = some o ∧ o.cls = .type "list" ∧ o.data = .seq its.toArray n ∧ IntsAre its l
theorem reads_ints {h : Heap} : ∀ {its : List Value} {l : List Int}, IntsAre its l → ReadsAll h its (l.map PyData.int) []
  | _, _, .nil => ReadsAll.nil
  | _, _, .cons n t r => ReadsAll.cons (as := []) (bs := []) (.int n t) (reads_ints r)
theorem IsLI.reads {h : Heap} {v : Value} {l : List Int} (i : IsLI h v l) : ∃ as, Reads h v (.list (l.map PyData.int)) as := by
  obtain ⟨b, o, its, n, rfl, ho, hc, hd, hi⟩ := i
  exact ⟨_, Reads.list ho hc hd (by simpa using reads_ints hi)⟩
section
variable {prog : Program} {w : World} {A : Around} {s : Shared}
theorem depth_ints (l : List Int) : (PyData.list (l.map PyData.int)).depth ≤ 2 := by
  have := depthAll_le (n := 1) (l.map PyData.int) fun x hx => by
    obtain ⟨i, _, rfl⟩ := List.mem_map.mp hx
    simp only [PyData.depth]; omega
  simp only [PyData.depth]; omega
theorem lists_sortableO {a : Addr} {vs : List Value} {k : Value → List Int} (h2 : 2 ≤ vs.length) (hp : ∀ v ∈ vs, IsLI s.heap v (k v)) (ha : ∀ v ∈ vs, v ≠ .ref a) (hu : A.units + 2 < cLine) : SrtO.SortableO prog w A s a vs fun v u => lexI (k v) (k u) := by
  intro h' keep
  have hp' : ∀ v ∈ vs, IsLI h' v (k v) := fun v hm => by
    obtain ⟨b, o, its, n, e, ho, rest⟩ := hp v hm
    exact ⟨b, o, its, n, e, keep b o (fun z => ha v hm (by rw [e, z])) ho, rest⟩
  refine ⟨oneType', fun Q E hq => ?_, fun p q hm hm' => ?_⟩
  · refine PySem.W.kas_kind (T := .type "list") h2 (fun v hm => ?_) (by decide +kernel) (by decide +kernel) hq
    obtain ⟨b, o, its, n, e, ho, hc, _⟩ := hp' v hm
    subst e
    exact fun A Q E s k hQ => wpAny_typeOf ⟨o, k _ _ ho, hc⟩ hQ
  · show wpAny (model prog w) A (keyLt' oneType' p.1 q.1) (fun r s' => s' = _ ∧ r = lexI (k p.1) (k q.1)) (fun _ _ => False) _
    obtain ⟨as, ra⟩ := (hp' _ hm).reads
    obtain ⟨bs, rb⟩ := (hp' _ hm').reads
    rw [keyLt'_oneType]
    refine PySem.W.oneLt_alike (fun _ xs z => by cases z) (s := { s with heap := h' }) ra rb (by simp only [PySem.W.alike, alike_ints]) (fun z => by cases z) ?_ ⟨rfl, lt_lists _ _⟩
    have := depth_ints (k p.1)
    omega
end
def kA (k : Addr → List Int) : Value → List Int
  | .ref b => k b
  | _ => []
section
variable {X : Cx}
/-- sorted(xs), lists of ints, any number of them -/
def rSortedL (K : PySem.W.Frag) : List V → Hp → VK → Prop := fun vs H Q => ∃ (a : Addr) (ps : List Addr) (k : Addr → List Int), vs = [V.ref a] ∧ SqL K H a (ps.map V.ref) ∧ (∀ p ∈ ps, H p = some (.lst ((k p).map V.int))) ∧
  ∀ (qs : List Addr) (p : Addr), qs.Perm ps → qs.Pairwise (fun x y => lexI (k y) (k x) = false) → H p = none → Q (.ref p) (upd H p (.lst (qs.map V.ref)))
theorem refs_of : ∀ {ps : List Addr} {us : List Value}, Vals (ps.map V.ref) us → us = ps.map Value.ref
  | [], _, r => by cases r; rfl
  | p :: ps, _, r => by
    cases r with
    | cons h t =>
      have h : _ = Value.ref p := h
      rw [h, refs_of t]
      rfl
theorem vals_refs : ∀ ps : List Addr, Vals (ps.map V.ref) (ps.map Value.ref)
  | [] => .nil
  | p :: ps => .cons rfl (vals_refs ps)
theorem cr_sortedL (hu : X.A.units + 64 < cLine) : CallR X (.builtin "sorted") (rSortedL X.K) := by
  intro pins s σ H vs us Q I r h
  obtain ⟨a, ps, k, rfl, hs, hk, q⟩ := h
  obtain ⟨items, rv, isl, most⟩ := I.list hs
  rw [Vals.ref1 r]
  have e := refs_of rv
  subst e
  have hL : ∀ v ∈ ps.map Value.ref, IsLI s.heap v (kA k v) := fun v hv => by
    obtain ⟨p, hp, rfl⟩ := List.mem_map.mp hv
    obtain ⟨its, rv2, ⟨o, n, ho, hc, _, hd⟩, _⟩ := I.list (X := X) (show SqL X.K H p _ from .inl (.inl (hk p hp)))
    exact ⟨p, o, its, n, rfl, ho, hc, hd, rv2.ints⟩
  refine SrtO.sorted_ord (swo_lexI (kA k)) isl.isList (by rw [← rv.length]; exact most) (fun h2 h₁ a' _ kk => ?_) fun out h1 h2 => ?_
  · refine lists_sortableO h2 (fun v hv => ?_) (fun v hv => ?_) ?_
    · obtain ⟨b, o, its, n, e, ho, rest⟩ := hL v hv
      exact ⟨b, o, its, n, e, (kk b o ho).2, rest⟩
    · obtain ⟨b, o, its, n, e, ho, rest⟩ := hL v hv
      rw [e]
      exact fun z => (kk b o ho).1 (Value.ref.inj z)
    · show X.A.units + 1 + 1 + 2 < cLine
      omega
  obtain ⟨ep, he'⟩ := PyProof.Rows.sortedAll_at s.heap (ps.map Value.ref) out.toArray
  obtain ⟨qs, e, pq⟩ : ∃ qs : List Addr, out = qs.map Value.ref ∧ qs.Perm ps := by
    let b : Value → Addr := fun v => match v with | .ref x => x | _ => 0
    have hb : (ps.map Value.ref).map b = ps := by rw [List.map_map]; exact List.map_id _
    refine ⟨out.map b, ?_, by have := h2.perm.map b; rwa [hb] at this⟩
    have : ∀ v ∈ out, Value.ref (b v) = v := fun v hv => by
      obtain ⟨p, _, rfl⟩ := List.mem_map.mp (h2.perm.mem_iff.mp hv)
      rfl
    rw [List.map_map]
    exact (List.map_id out).symm.trans (List.map_congr_left fun v hv => (this v hv).symm)
  subst e
  have hlen : (qs.map V.ref).length ≤ sizeLine := by
    rw [List.length_map, pq.length_eq]
    rw [List.length_map] at most
    exact most
  refine ⟨.ref _, upd H (s.heap.objs.size + 1) (.lst (qs.map V.ref)), I.laid (t' := s.toks) (fun _ _ => PyProof.Rows.sortedAll_old) (Nat.le_succ _) ⟨hlen, qs.map Value.ref, ep, vals_refs qs, he'⟩, rfl, q _ _ pq ?_ (I.hok.fresh (Nat.le_succ _))⟩
  have h1 : (qs.map Value.ref).Pairwise _ := h1
  rw [List.pairwise_map] at h1
  exact h1
end
end Hw

set_option Elab.async false
set_option linter.all false
set_option maxRecDepth 100000
set_option maxHeartbeats 4000000
/-! the binary text of a number: its figures from behind are its bits -/
namespace Hw
open PySem PySem.Spec PyProof.Rows L2
def binL (n : Nat) : List Nat := (Nat.toDigits 2 n).map Char.toNat
def binT (n : Nat) : Str := ⟨(binL n).toArray⟩
theorem digit2 : ∀ n, n < 2 → (Nat.digitChar n).toNat = 48 + n := by decide
theorem revB_lt {n : Nat} (h : n < 2) : (binL n).reverse = [48 + n] := by
  unfold binL
  rw [Nat.toDigits_of_lt_base h, List.map_cons, digit2 n h]
  rfl
theorem revB_ge {n : Nat} (h : 2 ≤ n) : (binL n).reverse = (48 + n % 2) :: (binL (n / 2)).reverse := by
  unfold binL
  rw [Nat.toDigits_of_base_le (by decide) h, List.map_append, List.reverse_append, List.map_cons, digit2 _ (Nat.mod_lt _ (by decide))]
  rfl
/-- the figure at i from behind -/
def figB (n i : Nat) : Nat := 48 + (if n.testBit i then 1 else 0)
theorem fig0 (n : Nat) : figB n 0 = 48 + n % 2 := by
  unfold figB
  rw [Nat.testBit_zero]
  by_cases h : n % 2 = 1
  · rw [if_pos (by simpa using h)]; omega
  · rw [if_neg (by simpa using h)]; omega
theorem revB_get : ∀ n i, i < (binL n).reverse.length → (binL n).reverse[i]? = some (figB n i) := by
  intro n
  induction n using Nat.strongRecOn with
  | _ n ih =>
    intro i hi
    by_cases h : n < 2
    · rw [revB_lt h] at hi ⊢
      have : i = 0 := by simpa using hi
      subst this
      rw [fig0, show n % 2 = n by omega]
      rfl
    · rw [revB_ge (by omega)] at hi ⊢
      cases i with
      | zero => rw [fig0]; rfl
      | succ i =>
        have hi : i < (binL (n / 2)).reverse.length := by simpa using hi
        show (binL (n / 2)).reverse[i]? = _
        rw [ih (n / 2) (by omega) i hi]
        unfold figB
        rw [Nat.testBit_succ]
theorem revB_high : ∀ n i, (binL n).reverse.length ≤ i → n.testBit i = false := by
  intro n
  induction n using Nat.strongRecOn with
  | _ n ih =>
    intro i hi
    by_cases h : n < 2
    · rw [revB_lt h] at hi
      have hi : 1 ≤ i := hi
      obtain ⟨j, rfl⟩ : ∃ j, i = j + 1 := ⟨i - 1, by omega⟩
      rw [Nat.testBit_succ, show n / 2 = 0 by omega, Nat.zero_testBit]
    · rw [revB_ge (by omega), List.length_cons] at hi
      obtain ⟨j, rfl⟩ : ∃ j, i = j + 1 := ⟨i - 1, by omega⟩
      rw [Nat.testBit_succ]
      exact ih (n / 2) (by omega) j (by omega)
theorem revB_len : ∀ k n, n < 2 ^ (k + 1) → (binL n).reverse.length ≤ k + 1 := by
  intro k
  induction k with
  | zero =>
    intro n h
    rw [revB_lt (by simpa using h)]
    exact Nat.le_refl _
  | succ k ih =>
    intro n h
    by_cases h2 : n < 2
    · rw [revB_lt h2]
      show 1 ≤ _
      omega
    · rw [revB_ge (by omega), List.length_cons]
      have := ih (n / 2) (by rw [Nat.pow_succ] at h; omega)
      omega
theorem rev_eq (n : Nat) : (binL n).reverse = (List.range (binL n).reverse.length).map (figB n) := by
  refine List.ext_getElem? fun i => ?_
  by_cases h : i < (binL n).reverse.length
  · rw [revB_get n i h, List.getElem?_map, List.getElem?_range h]
    rfl
  · rw [List.getElem?_eq_none (by omega), List.getElem?_eq_none (by rw [List.length_map, List.length_range]; omega)]
/-- the places of the bits, below k -/
def bitsN (k n : Nat) : List Nat := (List.range k).filter n.testBit
theorem bits_more {n k : Nat} : ∀ m, k ≤ m → (∀ i, k ≤ i → n.testBit i = false) → bitsN m n = bitsN k n
  | 0, h, _ => by rw [show k = 0 by omega]
  | m + 1, h, hn => by
    by_cases e : k = m + 1
    · rw [e]
    · unfold bitsN
      rw [List.range_succ, List.filter_append, List.filter_cons_of_neg (by rw [hn m (by omega)]; decide), List.filter_nil, List.append_nil]
      exact bits_more m (by omega) hn
end Hw

set_option Elab.async false
set_option linter.all false
set_option maxRecDepth 100000
set_option maxHeartbeats 4000000
/-! rules with the written part named; in of data; & and | of numbers from 0 on -/
namespace Hw
open PySem PySem.Spec PyProof.Rows L2
theorem bnot_bnot (x : Int) : Builtin.bitNot (Builtin.bitNot x) = x := by unfold Builtin.bitNot; omega
theorem band_nat (a b : Nat) : Builtin.bitAnd (a : Int) (b : Int) = ((a &&& b : Nat) : Int) := by
  unfold Builtin.bitAnd
  rw [decide_eq_true (Int.natCast_nonneg a), decide_eq_true (Int.natCast_nonneg b)]
  rfl
theorem bor_nat (a b : Nat) : Builtin.bitOr (a : Int) (b : Int) = ((a ||| b : Nat) : Int) := by
  unfold Builtin.bitOr
  have h : ∀ n : Nat, decide ((0 : Int) ≤ Builtin.bitNot (n : Int)) = false := fun n => decide_eq_false (by unfold Builtin.bitNot; omega)
  have e : Builtin.bitAnd (Builtin.bitNot (a : Int)) (Builtin.bitNot (b : Int)) = Builtin.bitNot ((((Builtin.bitNot (Builtin.bitNot (a : Int))).toNat ||| (Builtin.bitNot (Builtin.bitNot (b : Int))).toNat) : Nat) : Int) := by
    conv => lhs; unfold Builtin.bitAnd
    rw [h a, h b]
  rw [e, bnot_bnot, bnot_bnot, bnot_bnot]
  rfl
section
variable {X : Cx} {K : PySem.W.Frag}
theorem cr_anyK (h : X.K = K) (hc : X.calm = true) : CallR X (.builtin "any") (rAny K) := by subst h; exact cr_any hc
theorem op_inK (h : X.K = K) : OpR X (compareOp .In) (rIn K false) := by subst h; exact op_in_seq
theorem op_notInK (h : X.K = K) : OpR X (compareOp .NotIn) (rIn K true) := by subst h; exact op_notIn_seq
theorem pi_zipK {e e2 : Expr} {ta : TA} {p pos tpos : Pos} {elts : List Expr} {kk : Nat} (h : X.K = K) (hg : Gl X "zip") (hm : X.mg "zip" = none) (ha : PA X [e, e2] ta)
    (hs : starEach [e, e2] X.env = (false, eval e X.env) :: starEach [e2] X.env := by rfl) (hpl : (backTo pos (starEach [e2] X.env)).any (·.1) = false := by rfl) : PI X (.Tuple elts kk tpos) (.Call (.Name "zip" p) [e, e2] [] pos) (iZip K ta) := by
  subst h
  exact pi_zip hg hm ha hs hpl
def rNotInT : R2 := fun x y H Q => ∃ d ds, Dt H x d ∧ Dt H y (.list ds) ∧ SeqAt.shaped d = true ∧ SeqAt.shaped (.list ds) = true ∧ Q (.bl (!ds.any fun z => PyData.eqv z d)) H
def rInT : R2 := fun x y H Q => ∃ d ds, Dt H x d ∧ Dt H y (.list ds) ∧ SeqAt.shaped d = true ∧ SeqAt.shaped (.list ds) = true ∧ Q (.bl (ds.any fun z => PyData.eqv z d)) H
theorem op_notInT (hu : X.A.units + 65 < cLine) : OpR X (compareOp .NotIn) rNotInT := by
  intro pins s σ H x y v u Q I rx ry h
  obtain ⟨d, ds, hd, he, sd, se, q⟩ := h
  obtain ⟨as, r1, _⟩ := Dt.reads I d x v hd rx
  obtain ⟨bs, r2, _⟩ := Dt.reads I (.list ds) y u he ry
  exact SeqAt.notIn_list_reads r2 r1 (SeqAt.canLay_of_shaped se) (SeqAt.canLay_of_shaped sd) (PyProof.Rows.room_in_shaped sd hu) ⟨.bl _, H, I, rfl, q⟩
theorem op_inT (hu : X.A.units + 65 < cLine) : OpR X (compareOp .In) rInT := by
  intro pins s σ H x y v u Q I rx ry h
  obtain ⟨d, ds, hd, he, sd, se, q⟩ := h
  obtain ⟨as, r1, _⟩ := Dt.reads I d x v hd rx
  obtain ⟨bs, r2, _⟩ := Dt.reads I (.list ds) y u he ry
  exact SeqAt.in_list_reads r2 r1 (SeqAt.canLay_of_shaped se) (SeqAt.canLay_of_shaped sd) (PyProof.Rows.room_in_shaped sd hu) ⟨.bl _, H, I, rfl, q⟩
theorem units1 {k : Nat} {A : Around} (r : Room k A) : A.units + 65 < cLine := by have := r.un; omega
end
end Hw

set_option Elab.async false
set_option linter.all false
set_option maxRecDepth 100000
set_option maxHeartbeats 4000000
namespace Hw
/-! ### lots told by numbers: the least ones that meet all of a list -/
def subM (a b : Nat) : Prop := ∀ i, a.testBit i = true → b.testBit i = true
theorem subM.refl (a : Nat) : subM a a := fun _ h => h
theorem subM.trans {a b c : Nat} (h : subM a b) (k : subM b c) : subM a c := fun i z => k i (h i z)
theorem subM.le {a b : Nat} (h : subM a b) : a ≤ b := Nat.le_of_testBit h
theorem subM.anti {a b : Nat} (h : subM a b) (k : subM b a) : a = b := Nat.le_antisymm h.le k.le
theorem hit_iff {a b : Nat} : 0 < a &&& b ↔ ∃ i, a.testBit i = true ∧ b.testBit i = true := by
  constructor
  · intro h
    obtain ⟨i, hi⟩ := Nat.exists_testBit_of_ne_zero (show a &&& b ≠ 0 by omega)
    rw [Nat.testBit_and, Bool.and_eq_true] at hi
    exact ⟨i, hi⟩
  · rintro ⟨i, h1, h2⟩
    refine Nat.pos_of_ne_zero fun z => ?_
    have e : (a &&& b).testBit i = true := by rw [Nat.testBit_and, h1, h2]; rfl
    rw [z, Nat.zero_testBit] at e
    cases e
def allHit (C : List Nat) (m : Nat) : Prop := ∀ c ∈ C, 0 < m &&& c
instance (C : List Nat) (m : Nat) : Decidable (allHit C m) := inferInstanceAs (Decidable (∀ c ∈ C, 0 < m &&& c))
theorem allHit.mono {C : List Nat} {l m : Nat} (s : subM l m) (h : allHit C l) : allHit C m := fun c hc => by
  obtain ⟨i, h1, h2⟩ := hit_iff.mp (h c hc)
  exact hit_iff.mpr ⟨i, s i h1, h2⟩
theorem sub_bit : ∀ (i m : Nat), m.testBit i = true → 2 ^ i ≤ m ∧ ∀ j, (m - 2 ^ i).testBit j = (m.testBit j && decide (j ≠ i))
  | 0, m, h => by
    have h1 : m % 2 = 1 := by simpa [Nat.testBit_zero] using h
    refine ⟨by rw [Nat.pow_zero]; omega, fun j => ?_⟩
    rw [Nat.pow_zero]
    cases j with
    | zero =>
      rw [Nat.testBit_zero, decide_eq_false (by omega), decide_eq_false (by omega), Bool.and_false]
    | succ j => rw [Nat.testBit_succ, Nat.testBit_succ, show (m - 1) / 2 = m / 2 by omega, decide_eq_true (by omega), Bool.and_true]
  | i + 1, m, h => by
    rw [Nat.testBit_succ] at h
    obtain ⟨h1, h2⟩ := sub_bit i (m / 2) h
    have e : (2 : Nat) ^ (i + 1) = 2 * 2 ^ i := by rw [Nat.pow_succ, Nat.mul_comm]
    refine ⟨by omega, fun j => ?_⟩
    cases j with
    | zero =>
      rw [Nat.testBit_zero, Nat.testBit_zero, decide_eq_true (show 0 ≠ i + 1 by omega), Bool.and_true, show (m - 2 ^ (i + 1)) % 2 = m % 2 by omega]
    | succ j =>
      rw [Nat.testBit_succ, Nat.testBit_succ, show (m - 2 ^ (i + 1)) / 2 = m / 2 - 2 ^ i by omega, h2 j]
      congr 1
      by_cases z : j = i
      · rw [decide_eq_false (by omega), decide_eq_false (by omega)]
      · rw [decide_eq_true (by omega), decide_eq_true (by omega)]
def LeastM (C : List Nat) (m : Nat) : Prop := allHit C m ∧ ∀ i, m.testBit i = true → ¬ allHit C (m - 2 ^ i)
theorem less_sub {i m : Nat} (h : m.testBit i = true) : subM (m - 2 ^ i) m := fun j hj => by
  rw [(sub_bit i m h).2 j, Bool.and_eq_true] at hj
  exact hj.1
theorem leastM_iff {C : List Nat} {m : Nat} : LeastM C m ↔ allHit C m ∧ ∀ l, allHit C l → subM l m → l = m := by
  constructor
  · rintro ⟨h1, h2⟩
    refine ⟨h1, fun l hl hs => hs.anti fun i hi => ?_⟩
    cases hli : l.testBit i with
    | true => rfl
    | false =>
      refine (h2 i hi (hl.mono fun j hj => ?_)).elim
      rw [(sub_bit i m hi).2 j, hs j hj, decide_eq_true (show j ≠ i from fun z => by rw [z, hli] at hj; cases hj)]
      rfl
  · rintro ⟨h1, h2⟩
    refine ⟨h1, fun i hi hh => ?_⟩
    have e := h2 _ hh (less_sub hi)
    have p : 0 < 2 ^ i := Nat.pow_pos (by decide)
    have := (sub_bit i m hi).1
    omega
theorem exists_least {C : List Nat} : ∀ m, allHit C m → ∃ l, LeastM C l ∧ subM l m := by
  intro m
  induction m using Nat.strongRecOn with
  | _ m ih =>
    intro h
    by_cases hz : ∃ i, m.testBit i = true ∧ allHit C (m - 2 ^ i)
    · obtain ⟨i, hi, hh⟩ := hz
      have p : 0 < 2 ^ i := Nat.pow_pos (by decide)
      have := (sub_bit i m hi).1
      obtain ⟨l, h1, h2⟩ := ih (m - 2 ^ i) (by omega) hh
      exact ⟨l, h1, h2.trans (less_sub hi)⟩
    · exact ⟨m, ⟨h, fun i hi hh => hz ⟨i, hi, hh⟩⟩, .refl m⟩
theorem lt_of_bits {n m : Nat} (h : ∀ i, m.testBit i = true → i < n) : m < 2 ^ n :=
  Nat.lt_pow_two_of_testBit m fun i hi => by
    cases e : m.testBit i with
    | false => rfl
    | true => have := h i e; omega
theorem bit_lt {n m i : Nat} (h : m < 2 ^ n) (hi : m.testBit i = true) : i < n := by
  refine Nat.lt_of_not_le fun z => ?_
  rw [Nat.testBit_lt_two_pow (Nat.lt_of_lt_of_le h (Nat.pow_le_pow_right (by decide) z))] at hi
  cases hi
/-- what meets all least lots that meet all of C holds one of C -/
theorem cross_hit {n : Nat} {C T : List Nat} (hC : ∀ c ∈ C, c < 2 ^ n) (hT : ∀ t, t ∈ T ↔ t < 2 ^ n ∧ LeastM C t) (m : Nat) : allHit T m ↔ ∃ c ∈ C, subM c m := by
  constructor
  · intro h
    refine Classical.byContradiction fun z => ?_
    have bm : ∀ i, (2 ^ n - (m % 2 ^ n + 1)).testBit i = (decide (i < n) && !m.testBit i) := fun i => by
      rw [Nat.testBit_two_pow_sub_succ (Nat.mod_lt _ (Nat.pow_pos (by decide))), Nat.testBit_mod_two_pow]
      by_cases hi : i < n
      · simp [hi]
      · simp [hi]
    have ha : allHit C (2 ^ n - (m % 2 ^ n + 1)) := fun c hc => by
      refine hit_iff.mpr (Classical.byContradiction fun y => z ⟨c, hc, fun i hi => ?_⟩)
      cases hmi : m.testBit i with
      | true => rfl
      | false => exact (y ⟨i, by rw [bm, decide_eq_true (bit_lt (hC c hc) hi), hmi]; rfl, hi⟩).elim
    obtain ⟨t, h1, h2⟩ := exists_least _ ha
    have ht : t < 2 ^ n := lt_of_bits fun i hi => by
      have := h2 i hi
      rw [bm, Bool.and_eq_true, decide_eq_true_eq] at this
      exact this.1
    obtain ⟨i, i1, i2⟩ := hit_iff.mp (h t ((hT t).mpr ⟨ht, h1⟩))
    have := h2 i i2
    rw [bm, i1, Bool.not_true, Bool.and_false] at this
    cases this
  · rintro ⟨c, hc, hs⟩ t ht
    obtain ⟨i, i1, i2⟩ := hit_iff.mp (((hT t).mp ht).2.1 c hc)
    exact hit_iff.mpr ⟨i, hs i i2, i1⟩
theorem cross_least {n : Nat} {C T : List Nat} (hC : ∀ c ∈ C, c < 2 ^ n) (hT : ∀ t, t ∈ T ↔ t < 2 ^ n ∧ LeastM C t) (m : Nat) : LeastM T m ↔ m ∈ C ∧ ∀ c ∈ C, subM c m → c = m := by
  rw [leastM_iff]
  constructor
  · rintro ⟨h1, h2⟩
    obtain ⟨c, hc, hs⟩ := (cross_hit hC hT m).mp h1
    have k : ∀ c ∈ C, subM c m → c = m := fun c hc hs => h2 c ((cross_hit hC hT c).mpr ⟨c, hc, .refl c⟩) hs
    have e := k c hc hs
    exact ⟨e ▸ hc, k⟩
  · rintro ⟨h1, h2⟩
    refine ⟨(cross_hit hC hT m).mpr ⟨m, h1, .refl m⟩, fun l hl hs => ?_⟩
    obtain ⟨c, hc, hcs⟩ := (cross_hit hC hT l).mp hl
    have e := h2 c hc (hcs.trans hs)
    exact hs.anti (e ▸ hcs)
/-! ### lots as lists -/
theorem mem_bits {k n x : Nat} : x ∈ bitsN k n ↔ x < k ∧ n.testBit x = true := by
  unfold bitsN
  rw [List.mem_filter, List.mem_range]
theorem bits_inj {k a b : Nat} (ha : a < 2 ^ k) (hb : b < 2 ^ k) (h : bitsN k a = bitsN k b) : a = b := by
  have key : ∀ {a b}, a < 2 ^ k → bitsN k a = bitsN k b → subM a b := fun ha h i hi => by
    have m := mem_bits.mpr ⟨bit_lt ha hi, hi⟩
    rw [h] at m
    exact (mem_bits.mp m).2
  exact (key ha h).anti (key hb h.symm)
def maskN (l : List Nat) : Nat := l.foldl (fun a x => a ||| 2 ^ x) 0
theorem mask_bit (i : Nat) : ∀ (l : List Nat) (a : Nat), (l.foldl (fun a x => a ||| 2 ^ x) a).testBit i = (a.testBit i || decide (i ∈ l))
  | [], a => by simp
  | x :: l, a => by
    rw [List.foldl_cons, mask_bit i l, Nat.testBit_or, Nat.testBit_two_pow, Bool.or_assoc]
    congr 1
    by_cases h : x = i
    · subst h; simp
    · rw [decide_eq_false h, Bool.false_or]
      have : (i ∈ x :: l) ↔ i ∈ l := by
        rw [List.mem_cons]
        exact ⟨fun z => z.elim (fun z => (h z.symm).elim) id, .inr⟩
      simp only [this]
theorem mask_bits {k n : Nat} (h : n < 2 ^ k) : maskN (bitsN k n) = n := by
  refine Nat.eq_of_testBit_eq fun i => ?_
  unfold maskN
  rw [mask_bit, Nat.zero_testBit, Bool.false_or]
  cases e : n.testBit i with
  | true => exact decide_eq_true (mem_bits.mpr ⟨bit_lt h e, e⟩)
  | false => exact decide_eq_false fun z => by rw [(mem_bits.mp z).2] at e; cases e
theorem bits_low {k n : Nat} (h : n < 2 ^ k) : bitsN (k + 1) n = bitsN k n := by
  unfold bitsN
  rw [List.range_succ, List.filter_append, List.filter_cons_of_neg (by rw [Nat.testBit_lt_two_pow h]; decide), List.filter_nil, List.append_nil]
theorem bits_high {k n : Nat} (h : n < 2 ^ k) : bitsN (k + 1) (2 ^ k + n) = bitsN k n ++ [k] := by
  unfold bitsN
  rw [List.range_succ, List.filter_append, List.filter_cons_of_pos (by rw [Nat.testBit_two_pow_add_eq, Nat.testBit_lt_two_pow h]; rfl), List.filter_nil]
  congr 1
  refine List.filter_congr fun x hx => ?_
  rw [Nat.testBit_two_pow_add_gt (List.mem_range.mp hx)]
theorem lots_more (k : Nat) : ((List.range (2 ^ k)).map (bitsN k)) ++ ((List.range (2 ^ k)).map (bitsN k)).map (· ++ [k]) = (List.range (2 ^ (k + 1))).map (bitsN (k + 1)) := by
  rw [Nat.pow_succ, Nat.mul_two, List.range_add, List.map_append, List.map_map, List.map_map]
  congr 1
  · refine List.map_congr_left fun x hx => (bits_low (List.mem_range.mp hx)).symm
  · refine List.map_congr_left fun x hx => (bits_high (List.mem_range.mp hx)).symm
theorem bits_asc (k n : Nat) : (bitsN k n).Pairwise (· < ·) := (List.pairwise_lt_range).filter _
theorem bits_len (k n : Nat) : (bitsN k n).length ≤ k := by
  have := List.length_filter_le n.testBit (List.range k)
  rwa [List.length_range] at this
/-- low within high -/
def inL (l h : List Nat) : Bool := l.all fun x => h.contains x
theorem inL_iff {k a b : Nat} (ha : a < 2 ^ k) : inL (bitsN k a) (bitsN k b) = true ↔ subM a b := by
  unfold inL
  rw [List.all_eq_true]
  constructor
  · intro h i hi
    have := h i (mem_bits.mpr ⟨bit_lt ha hi, hi⟩)
    rw [List.contains_iff_mem] at this
    exact (mem_bits.mp this).2
  · intro h x hx
    obtain ⟨h1, h2⟩ := mem_bits.mp hx
    rw [List.contains_iff_mem]
    exact mem_bits.mpr ⟨h1, h x h2⟩
/-- a number in common -/
def meetL (o l : List Nat) : Bool := o.any fun x => l.contains x
theorem meetL_iff {k a b : Nat} (hb : b < 2 ^ k) : meetL (bitsN k a) (bitsN k b) = true ↔ 0 < b &&& a := by
  unfold meetL
  rw [List.any_eq_true, hit_iff]
  constructor
  · rintro ⟨x, hx, h⟩
    rw [List.contains_iff_mem] at h
    exact ⟨x, (mem_bits.mp h).2, (mem_bits.mp hx).2⟩
  · rintro ⟨i, h1, h2⟩
    have := bit_lt hb h1
    exact ⟨i, mem_bits.mpr ⟨this, h2⟩, by rw [List.contains_iff_mem]; exact mem_bits.mpr ⟨this, h1⟩⟩
def leastL (L : List (List Nat)) : List (List Nat) := L.filter fun l => (L.filter fun x => x != l && inL x l).isEmpty
theorem mem_leastL {L : List (List Nat)} {l : List Nat} : l ∈ leastL L ↔ l ∈ L ∧ ∀ x ∈ L, inL x l = true → x = l := by
  unfold leastL
  rw [List.mem_filter, List.isEmpty_iff, List.filter_eq_nil_iff]
  constructor
  · rintro ⟨h1, h2⟩
    refine ⟨h1, fun x hx hi => Classical.byContradiction fun z => h2 x hx ?_⟩
    rw [hi, Bool.and_true]
    simpa using z
  · rintro ⟨h1, h2⟩
    refine ⟨h1, fun x hx h => ?_⟩
    rw [Bool.and_eq_true] at h
    have := h2 x hx h.2
    rw [this] at h
    simp at h
/-! ### in order -/
abbrev intsL (l : List Nat) : List Int := l.map fun x : Nat => (x : Int)
def lexN (l m : List Nat) : Bool := lexI (intsL l) (intsL m)
theorem lexI_asym : ∀ l m : List Int, lexI l m = true → lexI m l = false
  | [], [], h => by cases h
  | [], _ :: _, _ => rfl
  | _ :: _, [], h => by cases h
  | x :: l, y :: m, h => by
    unfold lexI at h ⊢
    by_cases e : x = y
    · rw [if_pos e] at h
      rw [if_pos e.symm]
      exact lexI_asym l m h
    · rw [if_neg e, decide_eq_true_eq] at h
      rw [if_neg (fun z => e z.symm), decide_eq_false_iff_not]
      omega
theorem lexI_tot : ∀ l m : List Int, lexI l m = false → lexI m l = false → l = m
  | [], [], _, _ => rfl
  | [], _ :: _, h, _ => by cases h
  | _ :: _, [], _, h => by cases h
  | x :: l, y :: m, h, k => by
    unfold lexI at h k
    by_cases e : x = y
    · rw [if_pos e] at h
      rw [if_pos e.symm] at k
      rw [e, lexI_tot l m h k]
    · rw [if_neg e, decide_eq_false_iff_not] at h
      rw [if_neg (fun z => e z.symm), decide_eq_false_iff_not] at k
      omega
theorem intsL_inj {l m : List Nat} (h : intsL l = intsL m) : l = m := by
  have := congrArg (List.map Int.toNat) h
  simpa [intsL, List.map_map, Function.comp_def] using this
/-- ascending -/
def SA (L : List (List Nat)) : Prop := L.Pairwise fun x y => lexN x y = true
theorem SA.eq : ∀ {L M : List (List Nat)}, SA L → SA M → (∀ l, l ∈ L ↔ l ∈ M) → L = M
  | [], [], _, _, _ => rfl
  | [], y :: M, _, _, h => nomatch (h y).mpr (List.mem_cons_self ..)
  | x :: L, [], _, _, h => nomatch (h x).mp (List.mem_cons_self ..)
  | x :: L, y :: M, a, b, h => by
    have a := List.pairwise_cons.mp a
    have b := List.pairwise_cons.mp b
    have e : x = y := by
      rcases List.mem_cons.mp ((h x).mp (List.mem_cons_self ..)) with e | e
      · exact e
      rcases List.mem_cons.mp ((h y).mpr (List.mem_cons_self ..)) with f | f
      · exact f.symm
      have p := a.1 y f
      have q := b.1 x e
      rw [show lexN y x = false from lexI_asym _ _ p] at q
      cases q
    subst e
    have ne : ∀ {z : List Nat} {N : List (List Nat)}, (∀ a' ∈ N, lexN x a' = true) → z ∈ N → z ≠ x := fun h1 h2 h3 => by
      have := h1 _ h2
      rw [h3] at this
      rw [show lexN x x = false from lexI_irr _] at this
      cases this
    rw [SA.eq a.2 b.2 fun l => ⟨fun hl => ?_, fun hl => ?_⟩]
    · exact ((List.mem_cons.mp ((h l).mp (List.mem_cons_of_mem _ hl))).resolve_left (ne a.1 hl))
    · exact ((List.mem_cons.mp ((h l).mpr (List.mem_cons_of_mem _ hl))).resolve_left (ne b.1 hl))
theorem SA.filter {L : List (List Nat)} (h : SA L) (p : List Nat → Bool) : SA (L.filter p) := List.Pairwise.filter p h
theorem SA.nodup {L : List (List Nat)} (h : SA L) : L.Nodup := List.Pairwise.imp (fun {a b} hab e => by
  rw [e, show lexN b b = false from lexI_irr _] at hab
  cases hab) h
theorem SA.of {L : List (List Nat)} (h : L.Pairwise fun x y => lexN y x = false) (n : L.Nodup) : SA L := by
  refine List.Pairwise.imp ?_ (List.Pairwise.and h n)
  intro a b hab
  cases e : lexN a b with
  | true => rfl
  | false => exact (hab.2 (intsL_inj (lexI_tot _ _ e hab.1))).elim
theorem all_lots_nodup (k : Nat) : ((List.range (2 ^ k)).map (bitsN k)).Nodup := by
  refine List.pairwise_map.mpr (List.Pairwise.imp_of_mem ?_ List.nodup_range)
  intro a b ha hb hab e
  exact hab (bits_inj (List.mem_range.mp ha) (List.mem_range.mp hb) e)
/-- the least lots below n that meet all that ms tells, in order -/
structure IsX (n : Nat) (ms : List Nat) (R : List (List Nat)) : Prop where
  asc : SA R
  mem : ∀ l, l ∈ R ↔ ∃ m, m < 2 ^ n ∧ LeastM ms m ∧ l = bitsN n m
theorem IsX.eq {n : Nat} {ms : List Nat} {R R' : List (List Nat)} (h : IsX n ms R) (k : IsX n ms R') : R = R' := h.asc.eq k.asc fun l => (h.mem l).trans (k.mem l).symm
/-- all lots below n, in order -/
structure IsE (n : Nat) (L : List (List Nat)) : Prop where
  asc : SA L
  mem : ∀ l, l ∈ L ↔ ∃ m, m < 2 ^ n ∧ l = bitsN n m
theorem IsE.of {n : Nat} {L : List (List Nat)} (p : L.Perm ((List.range (2 ^ n)).map (bitsN n))) (h : L.Pairwise fun x y => lexN y x = false) : IsE n L := by
  refine ⟨.of h (p.nodup_iff.mpr (all_lots_nodup n)), fun l => ?_⟩
  rw [p.mem_iff, List.mem_map]
  exact ⟨fun ⟨m, h1, h2⟩ => ⟨m, List.mem_range.mp h1, h2.symm⟩, fun ⟨m, h1, h2⟩ => ⟨m, List.mem_range.mpr h1, h2.symm⟩⟩
/-- the law's list -/
def dueL (L : List (List Nat)) (C : List (List Nat)) : List (List Nat) := leastL (L.filter fun l => C.all fun o => meetL o l)
theorem due_is {n : Nat} {L : List (List Nat)} {ms : List Nat} (e : IsE n L) (hm : ∀ c ∈ ms, c < 2 ^ n) : IsX n ms (dueL L (ms.map (bitsN n))) := by
  have ev : ∀ l, l ∈ (L.filter fun l => (ms.map (bitsN n)).all fun o => meetL o l) ↔ ∃ m, m < 2 ^ n ∧ allHit ms m ∧ l = bitsN n m := fun l => by
    rw [List.mem_filter, e.mem]
    constructor
    · rintro ⟨⟨m, h1, rfl⟩, h2⟩
      refine ⟨m, h1, fun c hc => (meetL_iff (k := n) h1).mp ?_, rfl⟩
      rw [List.all_eq_true] at h2
      exact h2 _ (List.mem_map.mpr ⟨c, hc, rfl⟩)
    · rintro ⟨m, h1, h2, rfl⟩
      refine ⟨⟨m, h1, rfl⟩, ?_⟩
      rw [List.all_eq_true]
      intro x hx
      obtain ⟨c, hc, rfl⟩ := List.mem_map.mp hx
      exact (meetL_iff h1).mpr (h2 c hc)
  refine ⟨(e.asc.filter _).filter _, fun l => ?_⟩
  unfold dueL
  rw [mem_leastL, ev]
  constructor
  · rintro ⟨⟨m, h1, h2, rfl⟩, h3⟩
    refine ⟨m, h1, leastM_iff.mpr ⟨h2, fun l hl hs => ?_⟩, rfl⟩
    have hl2 : l < 2 ^ n := Nat.lt_of_le_of_lt hs.le h1
    exact bits_inj hl2 h1 (h3 _ ((ev _).mpr ⟨l, hl2, hl, rfl⟩) ((inL_iff hl2).mpr hs))
  · rintro ⟨m, h1, h2, rfl⟩
    obtain ⟨h2, h3⟩ := leastM_iff.mp h2
    refine ⟨⟨m, h1, h2, rfl⟩, fun x hx hi => ?_⟩
    obtain ⟨l, l1, l2, rfl⟩ := (ev x).mp hx
    rw [h3 l l2 ((inL_iff l1).mp hi)]
/-- twice: the least ones of the lots -/
theorem twice_is {n : Nat} {ms ts : List Nat} {U S : List (List Nat)} (hm : ∀ c ∈ ms, c < 2 ^ n) (ht : ∀ t, t ∈ ts ↔ t < 2 ^ n ∧ LeastM ms t) (hU : ∀ l, l ∈ U ↔ l ∈ ms.map (bitsN n)) (hS : SA S) (hSm : ∀ l, l ∈ S ↔ l ∈ leastL U) : IsX n ts S := by
  refine ⟨hS, fun l => ?_⟩
  rw [hSm, mem_leastL, hU]
  constructor
  · rintro ⟨h1, h2⟩
    obtain ⟨m, hm1, rfl⟩ := List.mem_map.mp h1
    refine ⟨m, hm m hm1, (cross_least hm ht m).mpr ⟨hm1, fun c hc hs => ?_⟩, rfl⟩
    exact bits_inj (hm c hc) (hm m hm1) (h2 _ ((hU _).mpr (List.mem_map.mpr ⟨c, hc, rfl⟩)) ((inL_iff (hm c hc)).mpr hs))
  · rintro ⟨m, h1, h2, rfl⟩
    obtain ⟨h2, h3⟩ := (cross_least hm ht m).mp h2
    refine ⟨List.mem_map.mpr ⟨m, h2, rfl⟩, fun x hx hi => ?_⟩
    obtain ⟨c, hc, rfl⟩ := List.mem_map.mp ((hU x).mp hx)
    rw [h3 c hc ((inL_iff (hm c hc)).mp hi)]
end Hw
namespace Hw
open PySem PySem.Spec PyProof.Rows L2
/-! ### lots in the heap -/
theorem Dt.nats_at' {H : Hp} {x : V} {l : List Nat} (h : Dt H x (.list (natD l))) : ∃ a, x = .ref a ∧ H a = some (.lst (natV l)) := by
  cases h with
  | @lst a xs _ ha hs =>
    have e := DtAll.nats_inv _ _ hs
    subst e
    exact ⟨a, rfl, ha⟩
def lotD (l : List Nat) : PyData := .list (natD l)
def lotsD (L : List (List Nat)) : PyData := .list (L.map lotD)
/-- the numbers of the list at p -/
def dN (H : Hp) (p : Addr) : List Nat := match H p with
  | some (.lst xs) => xs.map fun x => match x with | .int i => i.toNat | _ => 0
  | _ => []
theorem dN_of {H : Hp} {p : Addr} {l : List Nat} (h : H p = some (.lst (natV l))) : dN H p = l := by
  unfold dN
  rw [h]
  show (l.map fun x : Nat => V.int (x : Int)).map _ = l
  rw [List.map_map]
  exact List.map_id l
/-- a lot stands at p -/
def LotAt (H : Hp) (p : Addr) : Prop := H p = some (.lst (natV (dN H p)))
theorem LotAt.of {H : Hp} {p : Addr} {l : List Nat} (h : H p = some (.lst (natV l))) : LotAt H p := by
  unfold LotAt
  rw [dN_of h]
  exact h
theorem dN_same {H H' : Hp} {p : Addr} (e : Same H H') (h : LotAt H p) : dN H' p = dN H p := dN_of (e _ _ h)
theorem LotAt.to {H H' : Hp} {p : Addr} (h : LotAt H p) (e : Same H H') : LotAt H' p := .of (e _ _ h)
theorem lots_same {H H' : Hp} {ps : List Addr} (e : Same H H') (h : ∀ r ∈ ps, LotAt H r) : ps.map (dN H') = ps.map (dN H) := List.map_congr_left fun r hr => dN_same e (h r hr)
theorem DtAll.lots {H : Hp} : ∀ (L : List (List Nat)) (vs : List V), DtAll H vs (L.map lotD) → ∃ ps : List Addr, vs = ps.map V.ref ∧ ps.map (dN H) = L ∧ ∀ r ∈ ps, LotAt H r
  | [], _, h => by
    cases h
    exact ⟨[], rfl, rfl, fun r hr => nomatch hr⟩
  | l :: L, _, h => by
    cases h with
    | cons h1 h2 =>
      obtain ⟨ps, rfl, e, k⟩ := DtAll.lots L _ h2
      obtain ⟨a, rfl, ha⟩ := Dt.nats_at' h1
      refine ⟨a :: ps, rfl, ?_, fun r hr => ?_⟩
      · rw [List.map_cons, e, dN_of ha]
      · rcases List.mem_cons.mp hr with z | z
        · rw [z]; exact .of ha
        · exact k r z
theorem Dt.lots {H : Hp} {x : V} {L : List (List Nat)} (h : Dt H x (lotsD L)) : ∃ (a : Addr) (ps : List Addr), x = .ref a ∧ H a = some (.lst (ps.map V.ref)) ∧ ps.map (dN H) = L ∧ ∀ r ∈ ps, LotAt H r := by
  unfold lotsD at h
  cases h with
  | @lst a xs _ ha hs =>
    obtain ⟨ps, rfl, e, k⟩ := DtAll.lots L _ hs
    exact ⟨a, ps, rfl, ha, e, k⟩
theorem LotAt.dt {H : Hp} {r : Addr} (h : LotAt H r) : Dt H (.ref r) (lotD (dN H r)) := Dt.nats h
theorem DtAll.of_lots {H : Hp} : ∀ ps : List Addr, (∀ r ∈ ps, LotAt H r) → DtAll H (ps.map V.ref) ((ps.map (dN H)).map lotD)
  | [], _ => .nil
  | r :: ps, h => .cons (h r (List.mem_cons_self ..)).dt (DtAll.of_lots ps fun q hq => h q (List.mem_cons_of_mem _ hq))
theorem Dt.of_lots {H : Hp} {a : Addr} {ps : List Addr} (h : H a = some (.lst (ps.map V.ref))) (k : ∀ r ∈ ps, LotAt H r) : Dt H (.ref a) (lotsD (ps.map (dN H))) := .lst h (DtAll.of_lots ps k)
section
variable {X : Cx}
/-- sorted of lots -/
def rSortedLots (K : PySem.W.Frag) : List V → Hp → VK → Prop := fun vs H Q => ∃ (a : Addr) (ps : List Addr), vs = [V.ref a] ∧ SqL K H a (ps.map V.ref) ∧ (∀ p ∈ ps, LotAt H p) ∧
  ∀ (qs : List Addr) (p : Addr), qs.Perm ps → (qs.map (dN H)).Pairwise (fun x y => lexN y x = false) → H p = none → Q (.ref p) (upd H p (.lst (qs.map V.ref)))
theorem cr_sortedLK {K : PySem.W.Frag} (h : X.K = K) (hu : X.A.units + 64 < cLine) : CallR X (.builtin "sorted") (rSortedLots K) := by
  subst h
  intro pins s σ H vs us Q I r h
  obtain ⟨a, ps, rfl, hs, hk, q⟩ := h
  refine cr_sortedL hu pins s σ H _ us Q I r ⟨a, ps, fun p => intsL (dN H p), rfl, hs, fun p hp => ?_, fun qs p pq pw hp => q qs p pq ?_ hp⟩
  · have := hk p hp
    unfold LotAt at this
    rw [this]
    unfold intsL
    rw [List.map_map]
    rfl
  · rw [List.pairwise_map]
    exact pw
end
/-! ### comprehensions with a test, over lists of any kind -/
def FltM {α : Type} (f : α → PyData) (l : List α) (p : α → Bool) (H1 : Hp) (D : Addr) (i : Nat) (H' : Hp) : Prop := Same H1 H' ∧ ∃ vs, H' D = some (.lst vs) ∧ DtAll H1 vs (((l.take i).filter p).map f) ∧ vs.length ≤ i
theorem FltM.start {α : Type} {f : α → PyData} {l : List α} {p : α → Bool} {H1 : Hp} {D : Addr} (hD : H1 D = none) : FltM f l p H1 D 0 (upd H1 D (.lst [])) := ⟨same_new' hD, [], upd_same, .nil, Nat.le_refl _⟩
theorem FltM.keep {α : Type} {f : α → PyData} {l : List α} {p : α → Bool} {H1 H' H2 : Hp} {D : Addr} {i : Nat} {d : α} {y : V} (F : FltM f l p H1 D i H') (hD : H1 D = none) (hi : l[i]? = some d) (hp : p d = true) (hy : Dt H1 y (f d)) (hz : i ≤ 1000000) (e2 : Same H' H2) :
    ∃ acc, H2 D = some (.lst acc) ∧ acc.length < sizeLine ∧ FltM f l p H1 D (i + 1) (upd H2 D (.lst (acc ++ [y]))) := by
  obtain ⟨s, vs, e, hv, hl⟩ := F
  refine ⟨vs, e2 _ _ e, by rw [sizeLine_eq]; omega, fun b o hb => ?_, vs ++ [y], upd_same, ?_, by rw [List.length_append]; show vs.length + 1 ≤ i + 1; omega⟩
  · rw [upd_ne (ne_of_none hb hD)]
    exact e2 _ _ (s b o hb)
  · rw [List.take_add_one, hi, List.filter_append, List.map_append]
    refine hv.app ?_
    show DtAll H1 [y] ((List.filter p [d]).map f)
    rw [List.filter_cons_of_pos hp]
    exact .cons hy .nil
theorem FltM.skip {α : Type} {f : α → PyData} {l : List α} {p : α → Bool} {H1 H' H2 : Hp} {D : Addr} {i : Nat} {d : α} (F : FltM f l p H1 D i H') (hi : l[i]? = some d) (hp : p d = false) (e2 : Same H' H2) : FltM f l p H1 D (i + 1) H2 := by
  obtain ⟨s, vs, e, hv, hl⟩ := F
  refine ⟨s.trans e2, vs, e2 _ _ e, ?_, by omega⟩
  rw [List.take_add_one, hi, List.filter_append]
  show DtAll H1 vs (List.map f (_ ++ List.filter p [d]))
  rw [List.filter_cons_of_neg (by rw [hp]; exact Bool.false_ne_true), List.filter_nil, List.append_nil]
  exact hv
theorem FltM.done {α : Type} {f : α → PyData} {l : List α} {p : α → Bool} {H1 H' : Hp} {D : Addr} {n : Nat} (F : FltM f l p H1 D n H') (hn : n = l.length) : Same H1 H' ∧ Dt H' (.ref D) (.list ((l.filter p).map f)) := by
  obtain ⟨s, vs, e, hv, hl⟩ := F
  subst hn
  rw [List.take_length] at hv
  exact ⟨s, .lst e (hv.to s)⟩
/-- .. == [] -/
theorem eq_nilM {H' : Hp} {E : Addr} {x : V} {ds : List PyData} {Q : VK} (hx : Dt H' x (.list ds)) (hE : H' E = none) (nd : ∀ d ∈ ds, Nice d) (h : Q (.bl ds.isEmpty) (upd H' E (.lst []))) : rEqT x (.ref E) (upd H' E (.lst [])) Q := by
  refine ⟨_, .list [], hx.to (same_new' hE), .lst upd_same .nil, shaped_list nd, shaped_nil, ?_⟩
  rw [eqv_nil]
  exact h
theorem ne_nilM {H' : Hp} {E : Addr} {x : V} {ds : List PyData} {Q : VK} (hx : Dt H' x (.list ds)) (hE : H' E = none) (nd : ∀ d ∈ ds, Nice d) (h : Q (.bl (!ds.isEmpty)) (upd H' E (.lst []))) : rNeT x (.ref E) (upd H' E (.lst [])) Q := by
  refine ⟨_, .list [], hx.to (same_new' hE), .lst upd_same .nil, shaped_list nd, shaped_nil, ?_⟩
  rw [eqv_nil]
  exact h
/-- few small numbers -/
def Few (l : List Nat) : Prop := l.length ≤ 100 ∧ ∀ x ∈ l, x < 1000
theorem Few.bnd {l : List Nat} (h : Few l) : Bnd 1 100 (lotD l) := Bnd.nats (n := 100) (fun x hx => by have := h.2 x hx; omega) h.1 (by decide)
theorem Few.nice {l : List Nat} (h : Few l) : Nice (lotD l) := h.bnd.nice (by decide) (by decide)
theorem few_bits {n m : Nat} (h : n ≤ 8) : Few (bitsN n m) := ⟨by have := bits_len n m; omega, fun x hx => by have := (mem_bits.mp hx).1; omega⟩
theorem lots_shows {L : List (List Nat)} (h : ∀ l ∈ L, Few l) (hl : L.length ≤ 2000) : Nice (lotsD L) := by
  refine (Bnd.list (k := 1) (b := 100) (n := 2000) (c := 202000) (fun x hx => ?_) (by rw [List.length_map]; exact hl) (by decide)).nice (by decide) (by decide)
  obtain ⟨l, hl, rfl⟩ := List.mem_map.mp hx
  exact (h l hl).bnd
theorem nat_nice {n : Nat} (h : n < 10 ^ 38) : Nice (.int (n : Int)) := Nice.int (by omega)
mutual
theorem eqv_nats : ∀ a b : List Nat, PyData.eqvAll (natD a) (natD b) = (a == b)
  | [], [] => by simp [PyData.eqvAll]
  | [], _ :: _ => by simp [PyData.eqvAll]
  | _ :: _, [] => by simp [PyData.eqvAll]
  | x :: a, y :: b => by
    have := eqv_nats a b
    simp only [List.map_cons, PyData.eqvAll, this, PyData.eqv]
    by_cases h : x = y
    · subst h; simp
    · have e1 : ((x : Int) == (y : Int)) = false := by simp; omega
      have e2 : (x == y) = false := by simpa using h
      rw [e1, List.cons_beq_cons, e2]
end
theorem eqv_lots (a b : List Nat) : PyData.eqv (lotD a) (lotD b) = (a == b) := by
  unfold lotD
  simp only [PyData.eqv]
  exact eqv_nats a b
theorem cutN_from (l : List Nat) {n : Nat} (h : n ≤ l.length) : cutV (natV l) (some (n : Int)) none = natV (l.drop n) := by
  unfold cutV
  rw [HT.sIx_none, HT.sIx_nat, List.length_map, Nat.min_eq_left h, ← List.map_drop, List.take_of_length_le (by rw [List.length_map, List.length_drop]; omega)]
theorem cutR_to (l : List Addr) (n : Nat) : cutV (l.map V.ref) none (some (n : Int)) = (l.take n).map V.ref := by
  unfold cutV
  rw [HT.sIx_none, HT.sIx_nat, List.length_map, List.drop_zero, Nat.sub_zero, List.map_take]
  by_cases h : n ≤ l.length
  · rw [Nat.min_eq_left h]
  · rw [Nat.min_eq_right (by omega), List.take_of_length_le (by rw [List.length_map]; omega), List.take_of_length_le (by rw [List.length_map]; omega)]
theorem natV_snoc' (l : List Nat) (x : Nat) : natV l ++ [V.int (x : Int)] = natV (l ++ [x]) := by
  show _ = List.map _ _
  rw [List.map_append]
  rfl
end Hw

set_option Elab.async false
set_option linter.all false
set_option maxRecDepth 100000
set_option maxHeartbeats 4000000
/-! the binary text of a number, as an f-text makes it -/
namespace Hw
open PySem PySem.Spec PyProof.Rows L2 Builtin
abbrev fB : PySem.Builtin.Float.FormatSpec := { align := 62, type := some 98 }
theorem spec_b : Float.parseFormatSpec (Str.ofString "b").cps.toList "int" 62 = .ok fB := by kernel_rfl
theorem spec_few : ((Str.ofString "b").length == 0) = false := by kernel_rfl
theorem spec_plain : (((Str.ofString "b").cps.toList.drop 1).any (· ≥ 128) || ((Str.ofString "b").cps.getD 0 0 ≥ 128 && !([60, 62, 61, 94] : List Nat).contains ((Str.ofString "b").cps.getD 1 0))) = false := by kernel_rfl
theorem field_b (n : Nat) : intField' fB (decide ((n : Int) < 0)) [] ((Nat.toDigits 2 (n : Int).natAbs).map fun c => (if (98 : Nat) == 88 then c.toUpper else c).toNat) [] 4 = binT n := by
  have h : decide ((n : Int) < 0) = false := by simp
  rw [h]
  unfold intField' binT binL
  have e : ((Nat.toDigits 2 (n : Int).natAbs).map fun c => (if ((98 : Nat) == 88) = true then c.toUpper else c).toNat) = (Nat.toDigits 2 n).map Char.toNat := by
    rw [Int.natAbs_natCast]
    rfl
  rw [e]
  cases hd : (Nat.toDigits 2 n).map Char.toNat with
  | nil => simp [fB]
  | cons a l =>
    have z : ((-1 : Int) - (((l.length : Nat) : Int) + 1)).toNat = 0 := by omega
    simp [fB, z]
section
variable {prog : Program} {w : World} {A : Around} {s : Shared} {Q : Value → Shared → Prop} {E : Value → Shared → Prop}
theorem turned_if {α : Type} (b : Bool) {M : Model} {y : Sem α} {Q : α → Shared → Prop} (k : wpAny M A y Q E s) : wpAny M A (if b = true then y else y) Q E s := by
  cases b <;> exact k
theorem format_b {n : Nat} {t : Tok} (hz : (binT n).length ≤ sizeLine) (h : ∀ k u, Q (.str (binT n) u) { s with toks := k }) : wpAny (model prog w) A (formatField (.int (n : Int) t) (Str.ofString "b")) Q E s := by
  refine PySem.W.KXf.field_int (y := binT n) rfl spec_few (by decide +kernel) (fun u => ?_) fun t' k => h k t'
  apply PySem.W.KPc.meets_of
  intro prog w A s Q E hq
  unfold Builtin.«int.__format__»
  simp only [selfAndOne, noKeywords, Int.intOfSelf, asInt?, asStr?, List.isEmpty_nil, if_true, pure_bind, bind_pure, bind_assoc, spec_few, spec_plain, Bool.false_eq_true, if_false,
    show (Value.str (Str.ofString "b") u == Value.none) = false from rfl]
  refine wpAny_bind (wpAny_typeNameOf (T := "str") (typeIs_str _ _ _) (by decide) fun _ => ?_)
  refine wpAny_bind (wpAny_typeNameOfCut_int ?_)
  simp only [spec_b]
  rw [if_pos (by decide +kernel), show (fB.type.getD (if ((Str.ofString "b").cps.back? == some 0) = true then 0 else 100)) = 98 from by decide +kernel]
  refine turned_if fB.precision.isSome ?_
  simp only [show fB.precision = none from rfl, show fB.noNeg0 = false from rfl, show fB.width = none from rfl, show fB.alt = false from rfl, Option.isSome_none, Option.getD_none, Bool.false_eq_true, if_false,
    show ((98 : Nat) == 99) = false from rfl, show ((98 : Nat) == 98) = true from rfl, show ((2 : Nat) == 10) = false from rfl, if_true, show ¬ ((0 : Nat) > 100000) from by decide]
  exact PySem.W.KXf.ret_text (T := binT n) (field_b n) (Nat.le_trans (Nat.le_of_eq (congrArg PySem.Str.length (field_b n))) hz) hq
end
section
variable {X : Cx} {e sp : Expr} {te : TE} {pos : Pos}
/-- {e:b}, sp the text after the colon -/
theorem pe_fmtB (he : PE X e te) (hs : PE X sp (tC (.str (Str.ofString "b")))) : PE X (.FormattedValue e (-1) (some sp) pos) (fun σ H Q => te σ H fun x H1 => ∃ n : Nat, x = .int (n : Int) ∧ (binT n).length ≤ sizeLine ∧ Q (.str (binT n)) H1) := by
  refine ⟨fun pins s σ H Q I h => ?_⟩
  refine wpAny_FormattedValue_spec (thn (he.run pins s σ H _ I h) fun v s1 ⟨x, H1, I1, rx, n, ex, hz, q⟩ => ?_)
  subst ex
  obtain ⟨t, rfl⟩ := rx
  refine thn (hs.run pins s1 σ H1 (fun y H2 => y = .str (Str.ofString "b") ∧ H2 = H1) I1 ⟨rfl, rfl⟩) fun r s2 ⟨y, H2, I2, ry, ey, eh⟩ => ?_
  subst ey eh
  obtain ⟨t', rfl⟩ := ry
  exact ⟨_, t', rfl, format_b hz fun k' u => ⟨.str _, H2, I2.kept (t' := k') (fun _ _ q => q), ⟨u, rfl⟩, q⟩⟩
end
end Hw

set_option Elab.async false
set_option linter.all false
set_option maxRecDepth 100000
set_option maxHeartbeats 4000000
/-! a text from behind: x[::-1] -/
namespace Hw
open PySem PySem.Spec PyProof.Rows L2
def revT (z : Str) : Str := ⟨z.cps.toList.reverse.toArray⟩
theorem rev_ix (n : Nat) : Builtin.Str.strSliceIndices none none (-1) n = (List.range n).reverse := by
  unfold Builtin.Str.strSliceIndices
  show sliceRange ((n : Int) - 1) (-1) (-1) = _
  rw [PySem.W.krv_sliceRange, PySem.W.krv_range]
theorem rev_pick (z : Str) : ((Builtin.Str.strSliceIndices none none (-1) z.length).filterMap (z.cps[·]?)).toArray = z.cps.toList.reverse.toArray := by
  rw [rev_ix, List.filterMap_reverse]
  show ((List.range z.cps.size).filterMap (z.cps[·]?)).reverse.toArray = _
  rw [PySem.W.krv_all]
section
variable {X : Cx} {e : Expr} {st1 : Expr} {te : TE} {ts : TO} {p2 pos : Pos}
theorem pe_rev (he : PE X e te) (hs : PO X (some st1) ts) : PE X (.Subscript e (.Slice none none (some st1) p2) pos) (fun σ H Q => te σ H fun x H1 => ts σ H1 fun o H2 => ∃ z : Str, x = .str z ∧ o = some (-1) ∧ z.length ≤ sizeLine ∧ Q (.str (revT z)) H2) := by
  refine ⟨fun pins s σ H Q I h => ?_⟩
  refine Subscript_ (thn (he.run pins s σ H _ I h) fun text s1 ⟨x, H1, I1, r1, q1⟩ => ?_)
  refine wpAny_Slice ?_
  rw [evalPart_none]
  refine wpAny_pure (wpAny_pure ?_)
  refine thn (hs.run pins s1 σ H1 _ I1 q1) fun vu s3 ⟨u, H3, I3, pu, z, ex, eo, hz, q⟩ => ?_
  subst ex eo
  obtain ⟨t, rfl⟩ := r1
  cases pu with
  | int i tk =>
  have I4 : Inv X pins σ H3 { s3 with heap := s3.heap.push { cls := .type "slice", data := .fields #[.none, .none, .int (-1) tk] } } := I3.kept (t' := s3.toks) fun b ob q => Heap.get?_push_of_some _ q
  show wpAny (model X.prog X.w) X.A (subscriptTail e (.Slice none none (some st1) p2) (.str z t) (.ref s3.heap.objs.size)) (EP X pins σ Q) X.xe { s3 with heap := s3.heap.push { cls := .type "slice", data := .fields #[.none, .none, .int (-1) tk] } }
  refine tail_any (ops := [.ref s3.heap.objs.size, .str z t]) (typeIs_str _ _ _) F.slot_str_getitem.lookup ?_ (by with_unfolding_all rfl)
  refine wpAny_getItem_str_slice (l := none) (u := none) (st := some (-1, tk)) ⟨_, Heap.get?_push_size _ rfl, rfl, rfl⟩ rfl ?_
  show Made.post (if ((-1 : Int) == 1 && (Builtin.Str.strSliceIndices none none (-1) z.length).length == z.length) = true then Made.val (.str z t)
    else Made.str ⟨((Builtin.Str.strSliceIndices none none (-1) z.length).filterMap (z.cps[·]?)).toArray⟩) (EP X pins σ Q) _
  rw [if_neg (by rw [show ((-1 : Int) == 1) = false from rfl, Bool.false_and]; decide), rev_pick]
  refine ⟨?_, .str _, H3, I4.tok _, ⟨_, rfl⟩, q⟩
  show (z.cps.toList.reverse.toArray).size ≤ sizeLine
  rw [List.size_toArray, List.length_reverse, Array.length_toList]
  exact hz
end
end Hw

set_option Elab.async false
set_option linter.all false
set_option maxRecDepth 100000
set_option maxHeartbeats 4000000
/-! enumerate(text) -/
namespace Hw
open PySem PySem.Spec PyProof.Rows L2
def Itse (x : Str) : It := ⟨fun i _ => i < x.cps.size, fun i H v H' => ∃ T c, x.cps[i]? = some c ∧ v = .ref T ∧ H T = none ∧ H' = upd H T (.tup [.int (i : Nat), .str ⟨#[c]⟩]), fun i _ => x.cps.size ≤ i⟩
theorem draws_str {P : Program} {w : World} {A : Around} (hh : A.handled = none) (it : Addr) (x : Str) (t : Tok) {ty : String} (hty : ty = "str_ascii_iterator" ∨ ty = "str_iterator") :
    Draws P w A it [it] x.cps.size (fun i v => ∃ c u, x.cps[i]? = some c ∧ v = .str ⟨#[c]⟩ u) (fun i h => h.IsStrIter it ty x t i) := by
  rcases hty with e | e
  · rw [e]; exact Draws.strAscii hh it x t
  · rw [e]; exact Draws.strWide hh it x t
theorem turn_enumS {P : Program} {w : World} {K : PySem.W.Frag} {elts : List Expr} {kk : Nat} {tpos : Pos} (e it : Addr) (x : Str) (t : Tok) (ty : String) (hty : ty = "str_ascii_iterator" ∨ ty = "str_iterator") :
    Turn P w K (.Tuple elts kk tpos) (Itse x) [e, it] e (fun i h => (∃ old, IsEnum h e it ((i : Nat) : Int) old) ∧ h.IsStrIter it ty x t i ∧ e ≠ it) where
  mem := by simp
  obj := fun i h st b hb => by
    obtain ⟨⟨old, he⟩, ⟨o, ho, hc, hd⟩, _⟩ := st
    have e' : b = e ∨ b = it := by simpa using hb
    rcases e' with z | z
    · rw [z]; exact ⟨_, he, fun v q => nomatch q⟩
    · rw [z]; exact ⟨o, ho, fun v q => by rw [hd] at q; cases q⟩
  keep := fun i h h' st k => by
    obtain ⟨⟨old, he⟩, ⟨o, ho, r⟩, hne⟩ := st
    exact ⟨⟨old, k e (by simp) _ he⟩, ⟨o, k it (by simp) o ho, r⟩, hne⟩
  item := by
    intro X hP hw hK hc i pins s σ H E I hf st hg
    subst hP hw hK
    obtain ⟨⟨old, he⟩, hit, hne⟩ := st
    have hel : e < s.heap.objs.size := Heap.lt_size he
    have hil : it < s.heap.objs.size := by obtain ⟨_, q, _⟩ := hit; exact Heap.lt_size q
    refine wpAny_pyNext_enum_itemD (draws_str (A := X.A.in1) (I.ok.hd hc) it x t hty) he hit hg hne (by simpa using hne) fun y h' tk hy ho hit' hT hsz hk => ?_
    obtain ⟨c, u, hcx, rfl⟩ := hy
    refine ⟨_, rfl, wpAny_letOwnedTupleGo_enum (s := { s with heap := h', toks := tk + 1 }) ho fun h'' he' sb => ?_⟩
    have hT2 : h''.get? s.heap.objs.size = some { cls := .type "tuple", data := .seq #[.int i tk, .str ⟨#[c]⟩ u] } := (sb.2 _ (Nat.ne_of_gt hel)).trans hT
    have new : ObjOk X.prog X.w (upd H s.heap.objs.size (.tup [.int (i : Nat), .str ⟨#[c]⟩])) h'' s.heap.objs.size (.tup [.int (i : Nat), .str ⟨#[c]⟩]) :=
      ⟨by show 2 ≤ sizeLine; decide, [.int i tk, .str ⟨#[c]⟩ u], .cons ⟨_, rfl⟩ (.cons ⟨u, rfl⟩ .nil), ⟨_, hT2, rfl, _, rfl⟩⟩
    have I1 : Inv X pins σ (upd H s.heap.objs.size (.tup [.int (i : Nat), .str ⟨#[c]⟩])) { s with heap := h'', toks := tk + 1 } :=
      I.turnedNew (ch := [e, it]) (fun b ob hb q => (sb.2 b (fun z => hb (by simp [z]))).trans (hk b ob (fun z => hb (by simp [z])) (fun z => hb (by simp [z])) q)) hf (Nat.le_refl _) new
    refine ⟨.ref s.heap.objs.size, _, I1, rfl, ⟨_, c, hcx, rfl, I.hok.fresh (Nat.le_refl _), rfl⟩, ⟨⟨.str ⟨#[c]⟩ u, ?_⟩, ?_, hne⟩, fun b hb => ?_⟩
    · have e1 : ((i + 1 : Nat) : Int) = (i : Int) + 1 := by omega
      rw [e1]; exact he'
    · obtain ⟨o, ho2, r⟩ := hit'
      exact ⟨o, (sb.2 it (Ne.symm hne)).trans ho2, r⟩
    · have hb' : b < s.heap.objs.size := by
        have e' : b = e ∨ b = it := by simpa using hb
        rcases e' with z | z
        · rw [z]; exact hel
        · rw [z]; exact hil
      rw [upd_ne (Nat.ne_of_lt hb')]
      exact (hf b hb).1
  done := by
    intro X hP hw hK hc i pins s σ H E I hf st hg
    subst hP hw hK
    obtain ⟨⟨old, he⟩, hit, hne⟩ := st
    obtain ⟨f0, f1, f2, f3, f4, f5⟩ := hf it (by simp)
    have hx : x.cps[i]? = none := Array.getElem?_eq_none hg
    refine wpAny_pyNext_enum_endD (St := fun _ h => h.IsStrIter it ty x t i) (n := 0) (P := fun _ _ => True) (fp := [it]) ?_ he hit fun h' eb => ⟨rfl, I.turned (t' := s.toks) (fun b o hb q => eb b o hb q) f0 f1 f3 f4 f5⟩
    refine ⟨fun _ h ⟨o, ho, _⟩ => ⟨o, ho⟩, fun _ h h' ⟨o, ho, r⟩ k => ⟨o, k it (by simp) o ho, r⟩, fun j _ _ _ hj => (nomatch hj), fun s' Q' E' st' hE' => ?_⟩
    rcases hty with z | z
    · rw [z] at st'; exact wpAny_nextOf_ascii_end (A := X.A.in1) (I.ok.hd hc) st' hx hE'
    · rw [z] at st'; exact wpAny_nextOf_wide_end (A := X.A.in1) (I.ok.hd hc) st' hx hE'
  self := fun A i s Q E st h => let ⟨⟨_, he⟩, _⟩ := st; wpAny_pyIter_enum he h
def iEnumS (ta : TA) : TI := fun σ H R => ta σ H fun vs H1 => ∃ x, vs = [.str x] ∧ R (Itse x) H1
theorem strIter_ty (x : Str) : strIterType x = "str_ascii_iterator" ∨ strIterType x = "str_iterator" := by
  unfold strIterType
  split
  · exact .inl rfl
  · exact .inr rfl
theorem pi_enumS {X : Cx} {e : Expr} {ta : TA} {p pos tpos : Pos} {elts : List Expr} {kk : Nat} (hg : Gl X "enumerate") (hm : X.mg "enumerate" = none) (ha : PA X [e] ta) (hs : starEach [e] X.env = [(false, eval e X.env)] := by rfl) :
    PI X (.Tuple elts kk tpos) (.Call (.Name "enumerate" p) [e] [] pos) (iEnumS ta) := by
  refine ⟨fun pins s σ H R I h => ?_⟩
  refine Call_ (ld_blt I hg hm boot_enumerate (PyProof.Rows.callWith_type1 (thn (ha.run pos pins s σ H _ I h) fun us s1 ⟨vs, H1, I1, r1, q1⟩ => ?_) hs rfl))
  obtain ⟨x, ex, q⟩ := q1
  subst ex
  cases r1 with
  | cons r rr =>
    cases rr
    obtain ⟨t, rfl⟩ := r
    refine call_enumerate_str fun h' he hit hsz hk => wpAny_pyIter_enum he ?_
    have I2 : Inv X pins σ H1 { s1 with heap := h' } := I1.kept (t' := s1.toks) hk
    refine ⟨s1.heap.objs.size + 1, [s1.heap.objs.size + 1, s1.heap.objs.size], _, _, H1, rfl, I2, turn_enumS (s1.heap.objs.size + 1) s1.heap.objs.size x t _ (strIter_ty x), ⟨⟨.none, he⟩, hit, Nat.succ_ne_self _⟩, fun b hb => ?_, q⟩
    have e' : b = s1.heap.objs.size + 1 ∨ b = s1.heap.objs.size := by simpa using hb
    have hle : s1.heap.objs.size ≤ b := by
      rcases e' with z | z
      · rw [z]; exact Nat.le_add_right _ _
      · rw [z]; exact Nat.le_refl _
    exact I1.fpOk hle (I1.hok.fresh hle)
theorem walk_enumS {z : Str} : Walk (Itse z) z.cps.size (fun _ => True) (fun i H v H' => ∃ T c, z.cps[i]? = some c ∧ v = .ref T ∧ H T = none ∧ H' = upd H T (.tup [.int (i : Nat), .str ⟨#[c]⟩])) :=
  ⟨fun _ _ hi _ => hi, fun _ _ => Nat.le_refl _, fun _ _ _ _ _ _ y => y⟩
end Hw

set_option Elab.async false
set_option linter.all false
set_option maxRecDepth 100000
set_option maxHeartbeats 4000000
/-! set(list): of ints, of texts each once -/
namespace Hw
open PySem PySem.Spec PyProof.Rows L2
abbrev bareSet (w : World) : Obj := { cls := .type "set", dict := none, data := .set #[] 0 (.fresh 0 0 (!w.params.followText "set-order")) }
/-- items come one by one, Kt tells what stands in the set at S behind so many -/
structure Fills (P : Program) (w : World) (S : Addr) (n : Nat) (It : Nat → Value → Prop) (Kt : Nat → Heap → Prop) : Prop where
  keep : ∀ i h h', Kt i h → (∀ o, h.get? S = some o → h'.get? S = some o) → Kt i h'
  add : ∀ (A : Around) (i : Nat) (v : Value) (s : Shared) (Q : Bool → Shared → Prop) (E : Value → Shared → Prop), i < n → It i v → Kt i s.heap →
    (∀ (b : Bool) (h' : Heap) (k : Tok), Heap.SameBut S s.heap h' → s.toks ≤ k → Kt (i + 1) h' → Q b { s with heap := h', toks := k }) → wpAny (model P w) A (setAdd S v) Q E s
section
variable {P : Program} {w : World} {A : Around} {E : Value → Shared → Prop} {s : Shared}
theorem fill_loop {I : Addr} {fp wr : List Addr} {G : Array GenState → Array GenState → Prop} {n : Nat} {It : Nat → Value → Prop} {St : Nat → Shared → Prop} {R : Result → Shared → Prop} {S : Addr} {Kt : Nat → Heap → Prop}
    (W : WalksS P w A.in1 I fp wr G n It St) (Z : Fills P w S n It Kt) (away : S ∉ fp) :
    ∀ (k i : Nat) (s : Shared), n - i = k → i ≤ n → St i s → Kt i s.heap → (∀ s', Moved (S :: wr) G s s' → Kt n s'.heap → R (.ok (.ret .none)) s') →
      codeAny (model P w) A (.builtin "set.update.loop" ⟨[.ref S, .ref I], []⟩) R s := by
  have away2 : S ∉ wr := fun h => away (W.sub _ h)
  have more : ∀ b ∈ wr, b ∈ S :: wr := fun b hb => List.mem_cons_of_mem _ hb
  intro k
  induction k with
  | zero =>
    intro i s hk hi hst hS hR
    obtain rfl : i = n := by omega
    refine codeAny_builtin F.entry_set_update_loop ?_
    rw [Around.under_plainId F.plain_set_update_loop _]
    show wpAny _ A.in1 (pyNext (.ref I) >>= _) _ _ s
    refine wpAny_bind (W.done s _ _ hst fun s' hm => ?_)
    exact wpAny_pure (hR s' (hm.mono more) (Z.keep _ _ _ hS fun o e => hm.heap S o away2 e))
  | succ k ih =>
    intro i s hk hi hst hS hR
    have lt : i < n := by omega
    refine codeAny_builtin F.entry_set_update_loop ?_
    rw [Around.under_plainId F.plain_set_update_loop _]
    show wpAny _ A.in1 (pyNext (.ref I) >>= _) _ _ s
    refine wpAny_bind (W.item i s _ _ lt hst fun v s' hv hst' hm => ?_)
    show wpAny _ A.in1 (holding [v] (setAdd S v) >>= _) _ _ s'
    refine wpAny_bind (wpAny_holding (Z.add _ i v s' _ _ lt hv (Z.keep _ _ _ hS fun o e => hm.heap S o away2 e) fun b h' tk sb le hS2 => ?_))
    refine wpAny_pure ⟨plainId_quiet F.plain_set_update_loop _, ih (i + 1) _ (by omega) lt (W.frame _ s' _ _ hst' le fun c hc o e => ?_) hS2 fun s'' hm'' hS'' => ?_⟩
    · rw [sb.2 c (fun z => away (by rw [← z]; exact hc))]; exact e
    · refine hR s'' (Moved.trans W.gtrans ((hm.mono more).then_heap le fun c o hc e => ?_) hm'') hS''
      rw [sb.2 c (fun z => hc (by rw [z]; exact List.mem_cons_self))]; exact e
/-- set(list), its items told by It -/
theorem set_made {l : Addr} {items : Array Value} {It : Nat → Value → Prop} {Kt : Nat → Heap → Prop} {Q : Value → Shared → Prop} (hh : A.handled = none) (hl : s.heap.IsList l items) (hit : ∀ i v, items[i]? = some v → It i v)
    (Z : Fills P w s.heap.objs.size items.size It Kt) (h0 : ∀ h : Heap, h.get? s.heap.objs.size = some (bareSet w) → Kt 0 h)
    (h : ∀ (h' : Heap) (tk : Nat), Kt items.size h' → (∀ b o, s.heap.get? b = some o → h'.get? b = some o) → Q (.ref s.heap.objs.size) { s with heap := h', toks := tk }) :
    wpAny (model P w) A (call (.type "set") [.ref l]) Q E s := by
  obtain ⟨c, tl, hmro⟩ := F.called_set.mro
  have made := F.called_set.made
  have sub := F.called_set.sub
  refine wpAny_call (codeAny_of_tree ?_)
  show wpAny _ _ (callAny (.type "set") _) _ _ _
  refine wpAny_pure ⟨Code.quiet_builtin _ (by decide +kernel), codeAny_builtin F.entry_type_call ?_⟩
  rw [Around.under_plain (weight_type_call_type "set" [.ref l] []) rfl]
  have k1 := F.called_set.notType
  have k2 := F.called_set.canCreate
  have k3 := F.typeCall_set_1 (.ref l)
  repeat (any_goals (first | assumption | wp_step))
  have hN : (s.heap.push (bareSet w)).get? s.heap.objs.size = some (bareSet w) := Heap.get?_push_size _ rfl
  have oldN : ∀ b o, s.heap.get? b = some o → (s.heap.push (bareSet w)).get? b = some o := fun b o e => Heap.get?_push_of_some _ e
  have szN : (s.heap.push (bareSet w)).objs.size = s.heap.objs.size + 1 := Heap.size_push ..
  obtain ⟨N, hNe⟩ : ∃ N, s.heap.push (bareSet w) = N := ⟨_, rfl⟩
  rw [hNe] at hN oldN szN
  refine codeAny_mono (code_set_led1 (.ref l) (E := E) (Q₁ := fun obj s₁ => obj = .ref s.heap.objs.size ∧ s₁ = { s with heap := N }) ⟨rfl, by rw [hNe]⟩) fun r s₁ hr => ?_
  cases r with
  | error e => exact hr
  | ok fl =>
    cases fl with
    | ret obj =>
      obtain ⟨rfl, rfl⟩ := hr
      have hT : Shared.TypeIs { s with heap := N } (.ref s.heap.objs.size) "set" := ⟨_, hN, rfl⟩
      have k4 := F.called_set.init.lookup
      have k5 := F.called_set.init.bind (.ref s.heap.objs.size)
      repeat (any_goals (first | assumption | wp_step))
      refine codeAny_mono (codeAny_call_builtin (R := wants (fun r s₂ => r = .none ∧ ∃ h' tk, s₂ = { s with heap := h', toks := tk } ∧ Kt items.size h' ∧ (∀ b o, s.heap.get? b = some o → h'.get? b = some o)) E) F.called_set.init.plain F.entry_set_init (check_set_init_1 hT ?_)) fun r₂ s₂ hr₂ => ?_
      · have lt : l < s.heap.objs.size := by obtain ⟨ol, hol, _⟩ := hl; exact Heap.lt_size hol
        obtain ⟨⟨cls, dct, dat, slo⟩, hol, hcl, nl, hdl⟩ := hl
        simp only at hcl hdl
        subst hcl; subst hdl
        have holN := oldN _ _ hol
        have l1 : N.IsList l items := ⟨_, holN, rfl, nl, rfl⟩
        have k6 := F.sub_list_set
        have k7 := F.sub_list_frozenset
        have k8 : (Value.type "list" == Value.type "dict") = false := by decide
        unfold Builtin.«set.__init__» noKeywords Builtin.Frozenset.updateFrom
        generalize hPI : pyIter = PI
        wp_walk
        subst hPI
        refine wpAny_pyIter_list l1 ?_
        refine wpAny_bind (wpAny_runValue ?_)
        have noH : A.in1.in1.in1.handled = none := by simp [hh]
        have neI : l ≠ N.objs.size := by rw [szN]; exact Nat.ne_of_lt (Nat.lt_succ_of_lt lt)
        have away : s.heap.objs.size ∉ [N.objs.size, l] := by
          simp only [List.mem_cons, List.mem_singleton, List.not_mem_nil, or_false, not_or]
          rw [szN]
          exact ⟨Nat.ne_of_lt (Nat.lt_succ_self _), Nat.ne_of_gt lt⟩
        have fill := Walks.list (prog := P) (w := w) noH N.objs.size l neI items
        refine fill_loop (fill.toS) (S := s.heap.objs.size) (Kt := Kt) ⟨Z.keep, fun A' i v s' Q' E' hi hv hk q => Z.add A' i v s' Q' E' hi (hit i v hv) hk q⟩ away (items.size - 0) 0 _ (by omega) (Nat.zero_le _) ⟨⟨_, Heap.get?_push_size _ rfl, rfl, rfl⟩, l1.push _⟩ (h0 _ (Heap.get?_push_of_some _ hN)) ?_
        intro s' hm hS'
        obtain ⟨h', g2, d', tk', os'⟩ := s'
        have eg : g2 = s.gens := hm.gens
        have ed : d' = s.drawn := hm.drawn
        have eo : os' = s.os := hm.os
        subst eg; subst ed; subst eo
        show wpAny _ _ _ _ _ _
        refine wpAny_pure ?_
        show wpAny _ _ (ret Value.none) _ _ _
        refine wpAny_pure ⟨rfl, h', tk', rfl, hS', fun b o e => ?_⟩
        have hb := Heap.lt_size e
        exact hm.heap b o (by simp only [List.mem_cons, List.mem_singleton, List.not_mem_nil, or_false, not_or]; rw [szN]; exact ⟨Nat.ne_of_lt hb, Nat.ne_of_lt (Nat.lt_succ_of_lt hb)⟩) (Heap.get?_push_of_some _ (oldN _ _ e))
      · cases r₂ with
        | error e => exact hr₂
        | ok fl₂ =>
          cases fl₂ with
          | ret r =>
            obtain ⟨rfl, h', tk, rfl, hS', hk'⟩ := hr₂
            repeat (any_goals (first | assumption | wp_step))
            exact h _ _ hS' hk'
          | _ => exact hr₂.elim
    | _ => exact hr.elim
end
end Hw

set_option Elab.async false
set_option linter.all false
set_option maxRecDepth 100000
set_option maxHeartbeats 4000000
/-! sorted(set(ints)), len(set(texts)) -/
namespace Hw
open PySem PySem.Spec PyProof.Rows L2
theorem few_places : ∀ (b : Nat) (l : List Nat), l.Nodup → (∀ x ∈ l, x < b) → l.length ≤ b
  | 0, [], _, _ => Nat.le_refl _
  | 0, x :: r, _, h => absurd (h x (List.mem_cons_self ..)) (Nat.not_lt_zero _)
  | b + 1, l, n, h => by
    have ih := few_places b (l.filter (· != b)) (n.sublist List.filter_sublist) fun x hx => by
      obtain ⟨h1, h2⟩ := List.mem_filter.mp hx
      have := h x h1
      have : x ≠ b := by simpa using h2
      omega
    have e : l.length = (l.filter (· != b)).length + (l.filter (· == b)).length := by
      rw [← List.countP_eq_length_filter, ← List.countP_eq_length_filter, List.length_eq_countP_add_countP (p := (· != b))]
      congr 1
      exact List.countP_congr fun x _ => by simp
    have one : (l.filter (· == b)).length ≤ 1 := by
      rw [← List.countP_eq_length_filter]
      exact List.nodup_iff_count.mp n b
    omega
section
variable {P : Program} {w : World}
theorem fills_ints {S : Addr} (ns : List Int) (hb : ns.length + 1 < scanBound) : Fills P w S ns.length (fun i v => ∃ k t, ns[i]? = some k ∧ v = .int k t) (fun i h => ∃ c, c ≤ i ∧ SetR w h S (fun j => decide (j ∈ ns.take i)) c) where
  keep := fun i h h' ⟨c, hc, R⟩ k => ⟨c, hc, R.at k⟩
  add := fun A i v s Q E hi hv hk q => by
    obtain ⟨z, t, hz, rfl⟩ := hv
    obtain ⟨c, hc, R⟩ := hk
    unfold setAdd
    refine wpAny_holding ?_
    refine wpAny_bind ((intKind P w).pyHash (k := z) (intKind_is _ _ _ _) ?_)
    refine setR_add_hashed (s := { s with toks := s.toks + 1 }) R (by omega) fun h' sb R2 => ?_
    refine q _ h' _ sb (Nat.le_succ _) ⟨_, ?_, R2.congr fun j => ?_⟩
    · split <;> omega
    · rw [List.take_add_one, hz]
      simp [List.mem_append]
theorem setR_few {h : Heap} {a : Addr} {ns : List Int} {c : Nat} (R : SetR w h a (fun j => decide (j ∈ ns)) c) (k : ∀ x ∈ ns, 0 ≤ x ∧ x < 60) : c ≤ 60 := by
  obtain ⟨o, es, ep, t, _, _, _, _, nd, hm, _, _, hn, _⟩ := R
  have b : ∀ x ∈ es.toList.map keyOf, 0 ≤ x ∧ x < 60 := fun x hx => k x (of_decide_eq_true ((hm x).mpr hx))
  have l := few_places 60 ((es.toList.map keyOf).map Int.toNat) ?_ ?_
  · rw [List.length_map, List.length_map, Array.length_toList, hn] at l
    exact l
  · refine List.pairwise_map.mpr (List.Pairwise.imp_of_mem ?_ nd)
    intro x y hx hy hxy e
    have := b x hx
    have := b y hy
    omega
  · intro x hx
    obtain ⟨y, hy, rfl⟩ := List.mem_map.mp hx
    have := b y hy
    omega
theorem fills_strs {S : Addr} (xs : List Str) (hn : xs.Nodup) (hb : xs.length + 1 < scanBound) : Fills P w S xs.length (fun i v => ∃ k t, xs[i]? = some k ∧ v = .str k t) (fun i h => h.SetOf (strKind P w) S (fun k => (xs.take i).any (· == k)) i) where
  keep := fun i h h' ⟨o, es, ep, t, ho, r⟩ k => ⟨o, es, ep, t, k o ho, r⟩
  add := fun A i v s Q E hi hv hk q => by
    obtain ⟨z, t, hz, rfl⟩ := hv
    unfold setAdd
    refine wpAny_holding ?_
    refine wpAny_bind ((strKind P w).pyHash (k := z) (strKind_is _ _ _ _) ?_)
    refine wpAny_setAddHashed_of (knd := strKind P w) (s := { s with toks := s.toks + 1 }) (strKind_is _ _ _ _) rfl hk (by omega) fun h' sb R2 => ?_
    have no : ((xs.take i).any (· == z)) = false := by
      rw [List.any_eq_false]
      intro x hx e
      have e : x = z := by simpa using e
      obtain ⟨j, hj, hjx⟩ := List.mem_take_iff_getElem.mp hx
      obtain ⟨i1, iz⟩ := List.getElem?_eq_some_iff.mp hz
      have := List.pairwise_iff_getElem.mp hn j i (by omega) i1 (by omega)
      exact this (by rw [hjx, iz, e])
    refine q _ h' _ sb (Nat.le_succ _) (SetOf_congr R2 (fun k => ?_) (by rw [no]; rfl))
    rw [List.take_add_one, hz, List.any_append]
    show (_ || decide (k = z)) = (_ || ([z].any (· == k)))
    congr 1
    by_cases e : k = z
    · subst e; simp
    · have : (z == k) = false := by simpa using fun h : z = k => e h.symm
      simp [this, e]
end
section
variable {X : Cx} {K : PySem.W.Frag} {w : World}
/-- set(ints) -/
def rSetI (K : PySem.W.Frag) (w : World) : List V → Hp → VK → Prop := fun xs H Q => ∃ (l : Addr) (ns : List Int), xs = [.ref l] ∧ SqL K H l (ns.map V.int) ∧ ns.length ≤ 1000 ∧ (∀ k ∈ ns, 0 ≤ k ∧ k < 60) ∧
  ∀ (a : Addr) (c : Nat), H a = none → c ≤ 60 → Q (.ref a) (upd H a (SetO w a (fun j => decide (j ∈ ns)) c))
theorem cr_setI (h : X.K = K) (hw : X.w = w) (hc : X.calm = true) : CallR X (.type "set") (rSetI K w) := by
  subst h hw
  intro pins s σ H xs us Q I r h
  obtain ⟨l, ns, rfl, hs, small, rng, q⟩ := h
  obtain ⟨its, rv, isl, most⟩ := I.list hs
  rw [Vals.ref1 r]
  have len : its.toArray.size = ns.length := by rw [List.size_toArray, ← rv.length, List.length_map]
  refine set_made (It := fun i v => ∃ k t, ns[i]? = some k ∧ v = .int k t) (Kt := fun i h => ∃ c, c ≤ i ∧ SetR X.w h s.heap.objs.size (fun j => decide (j ∈ ns.take i)) c) (I.ok.hd hc) isl.isList (fun i v hv => ?_) ?_ (fun h hh => ?_) fun h' tk hk old => ?_
  · have hi : i < ns.length := by rw [← len]; exact (Array.getElem?_eq_some_iff.mp hv).1
    obtain ⟨t, e⟩ := IntsAre.int_at rv.ints i v (by simpa using hv)
    refine ⟨ns[i], t, List.getElem?_eq_getElem hi, ?_⟩
    rw [e, List.getD_eq_getElem?_getD, List.getElem?_eq_getElem hi]
    rfl
  · rw [len]
    exact fills_ints ns (by show ns.length + 1 < 4096; omega)
  · exact ⟨0, Nat.le_refl _, setR_new_at hh⟩
  · obtain ⟨c, hcl, R⟩ := hk
    rw [len, List.take_length] at R
    exact ⟨.ref _, upd H s.heap.objs.size (SetO X.w s.heap.objs.size (fun j => decide (j ∈ ns)) c), I.laid (t' := tk) old (Nat.le_refl _) (setO_new R), rfl, q _ _ (I.hok.fresh (Nat.le_refl _)) (setR_few R rng)⟩
theorem cr_sortedSetW (hw : X.w = w) (hc : X.calm = true) : CallR X (.builtin "sorted") (rSortedSet w) := by subst hw; exact cr_sortedSet hc
/-- len(set(texts)), each text once -/
def tLenSetT (K : PySem.W.Frag) (ta : TE) : TE := fun σ H Q => ta σ H fun x H1 => ∃ (l : Addr) (xs : List Str), x = .ref l ∧ SqL K H1 l (xs.map V.str) ∧ xs.length ≤ 1000 ∧ xs.Nodup ∧ Q (.int xs.length) H1
theorem pe_lenSetT {a : Expr} {ta : TE} {p p2 q pos : Pos} (h : X.K = K) (hc : X.calm = true) (hg : Gl X "len") (hm : X.mg "len" = none) (hg2 : Gl X "set") (hm2 : X.mg "set" = none) (ha : PE X a ta)
    (na : starEach [a] X.env = (false, eval a X.env) :: starEach [] X.env := by rfl) : PE X (.Call (.Name "len" p) [.Call (.Name "set" p2) [a] [] q] [] pos) (tLenSetT K ta) := by
  subst h
  refine ⟨fun pins s σ H Q I h => ?_⟩
  refine Call_ (ld_blt I hg hm boot_len ?_)
  refine PyProof.Rows.callWith_builtin1 (PyProof.Rows.args_cons ?_ rfl) rfl rfl
  refine Call_ (ld_blt I hg2 hm2 boot_set ?_)
  refine PyProof.Rows.callWith_type1 (PyProof.Rows.args_cons (thn (ha.run pins s σ H _ I h) fun v s1 ⟨x, H1, I1, r1, q1⟩ => PyProof.Rows.args_nil ?_) na) na rfl
  obtain ⟨l, xs, rfl, hs, small, nd, q1⟩ := q1
  cases r1
  obtain ⟨its, rv, isl, most⟩ := I1.list hs
  have len : its.toArray.size = xs.length := by rw [List.size_toArray, ← rv.length, List.length_map]
  refine set_made (It := fun i v => ∃ k t, xs[i]? = some k ∧ v = .str k t) (Kt := fun i h => h.SetOf (strKind X.prog X.w) s1.heap.objs.size (fun k => (xs.take i).any (· == k)) i) (I1.ok.hd hc) isl.isList (fun i v hv => ?_) ?_ (fun h hh => ?_) fun h' tk hk old => ?_
  · have hi : i < xs.length := by rw [← len]; exact (Array.getElem?_eq_some_iff.mp hv).1
    obtain ⟨u, hu, t, e⟩ := rv.get (i := i) (x := .str xs[i]) (by simp [hi])
    refine ⟨xs[i], t, List.getElem?_eq_getElem hi, ?_⟩
    rw [List.getElem?_toArray, hu] at hv
    rw [← Option.some.inj hv, e]
  · rw [len]
    exact fills_strs xs nd (by show xs.length + 1 < 4096; omega)
  · exact SetOf_congr ((setObjOf_fresh (knd := strKind X.prog X.w) _).setOf hh (by show 0 < 4096; decide)) (fun _ => rfl) rfl
  · refine PyProof.Rows.args_nil ?_
    rw [len] at hk
    obtain ⟨o, es, ep, t, ho, hex, hd, _, _, _, hf, hn⟩ := hk
    have I2 : Inv X pins σ H1 { s1 with heap := h', toks := tk } := I1.kept old
    refine call_len_set ho hex hd hf (by rw [hn]; omega) ⟨.int xs.length, H1, I2.tok _, ⟨_, by rw [hn]⟩, q1⟩
end
end Hw

set_option Elab.async false
set_option linter.all false
set_option maxRecDepth 100000
set_option maxHeartbeats 4000000
/-! the lots of stands behind rows of 0, 1, .. letters -/
namespace Hw
open PySem PySem.Spec PyProof.Rows L2
/-- what tells all stands behind those of a lot -/
def imgM (t : Tb) (m : Nat) : Nat := (bitsN t.steps.length m).foldl (fun a s => a ||| maskN (t.steps.getD s [])) 0
theorem fold_bit (f : Nat → Nat) (i : Nat) : ∀ (l : List Nat) (a : Nat), (l.foldl (fun a s => a ||| f s) a).testBit i = (a.testBit i || l.any fun s => (f s).testBit i)
  | [], a => by simp
  | x :: l, a => by rw [List.foldl_cons, fold_bit f i l, Nat.testBit_or, List.any_cons, Bool.or_assoc]
theorem maskN_bit (l : List Nat) (i : Nat) : (maskN l).testBit i = decide (i ∈ l) := by
  unfold maskN
  rw [mask_bit, Nat.zero_testBit, Bool.false_or]
theorem img_bit {t : Tb} {m i : Nat} : (imgM t m).testBit i = true ↔ ∃ s, s < t.steps.length ∧ m.testBit s = true ∧ i ∈ t.steps.getD s [] := by
  unfold imgM
  rw [fold_bit, Nat.zero_testBit, Bool.false_or, List.any_eq_true]
  constructor
  · rintro ⟨s, hs, h⟩
    rw [maskN_bit] at h
    exact ⟨s, (mem_bits.mp hs).1, (mem_bits.mp hs).2, of_decide_eq_true h⟩
  · rintro ⟨s, h1, h2, h3⟩
    exact ⟨s, mem_bits.mpr ⟨h1, h2⟩, by rw [maskN_bit]; exact decide_eq_true h3⟩
theorem Tb.Good.row_lt {t : Tb} (g : t.Good) {s x : Nat} (h : x ∈ t.steps.getD s []) : x < t.steps.length := by
  by_cases hs : s < t.steps.length
  · rw [List.getD_eq_getElem?_getD, List.getElem?_eq_getElem hs] at h
    exact g.stand _ (List.getElem_mem hs) x h
  · rw [List.getD_eq_getElem?_getD, List.getElem?_eq_none (by omega)] at h
    cases h
theorem img_lt {t : Tb} (g : t.Good) (m : Nat) : imgM t m < 2 ^ t.steps.length := lt_of_bits fun i hi => by
  obtain ⟨s, _, _, h⟩ := img_bit.mp hi
  exact g.row_lt h
def lotM (t : Tb) : Nat → Nat
  | 0 => 1
  | n + 1 => imgM t (lotM t n)
theorem lot_lt {t : Tb} (g : t.Good) : ∀ n, lotM t n < 2 ^ t.steps.length
  | 0 => Nat.lt_of_lt_of_le (by decide : 1 < 2 ^ 1) (Nat.pow_le_pow_right (by decide) g.some)
  | n + 1 => img_lt g _
/-- n lots, each other one, then that with the number b again -/
structure Orb (t : Tb) (n b : Nat) : Prop where
  lt : b < n
  back : lotM t n = lotM t b
  other : ∀ i j, i < j → j < n → lotM t i ≠ lotM t j
theorem Orb.eq {t : Tb} {n b n' b' : Nat} (o : Orb t n b) (o' : Orb t n' b') : n = n' ∧ b = b' := by
  have h1 : ∀ {n b n' b'}, Orb t n b → Orb t n' b' → ¬ n < n' := fun {n b n' b'} o o' h => o'.other b n o.lt h o.back.symm
  have e : n = n' := by have := h1 o o'; have := h1 o' o; omega
  subst e
  refine ⟨rfl, ?_⟩
  have e2 := o.back.symm.trans o'.back
  rcases Nat.lt_trichotomy b b' with h | h | h
  · exact (o.other b b' h o'.lt e2).elim
  · exact h
  · exact (o.other b' b h o.lt e2.symm).elim
theorem diff_le : ∀ (b : Nat) (l : List Nat), l.Nodup → (∀ x ∈ l, x < b) → l.length ≤ b
  | 0, [], _, _ => Nat.le_refl _
  | 0, x :: r, _, h => absurd (h x (List.mem_cons_self ..)) (Nat.not_lt_zero _)
  | b + 1, l, n, h => by
    have ih := diff_le b (l.filter (· != b)) (n.sublist List.filter_sublist) fun x hx => by
      obtain ⟨h1, h2⟩ := List.mem_filter.mp hx
      have := h x h1
      have : x ≠ b := by simpa using h2
      omega
    have e : l.length = (l.filter (· != b)).length + (l.filter (· == b)).length := by
      rw [← List.countP_eq_length_filter, ← List.countP_eq_length_filter, List.length_eq_countP_add_countP (p := (· != b))]
      congr 1
      exact List.countP_congr fun x _ => by simp
    have one : (l.filter (· == b)).length ≤ 1 := by
      rw [← List.countP_eq_length_filter]
      exact List.nodup_iff_count.mp n b
    omega
theorem orb_few {t : Tb} (g : t.Good) {k : Nat} (h : ∀ i j, i < j → j < k → lotM t i ≠ lotM t j) : k ≤ 2 ^ t.steps.length := by
  have := diff_le (2 ^ t.steps.length) ((List.range k).map (lotM t)) ?_ ?_
  · rwa [List.length_map, List.length_range] at this
  · refine List.pairwise_map.mpr (List.Pairwise.imp_of_mem ?_ (List.pairwise_lt_range (n := k)))
    intro i j _ hj hij
    exact h i j hij (List.mem_range.mp hj)
  · intro x hx
    obtain ⟨i, _, rfl⟩ := List.mem_map.mp hx
    exact lot_lt g i
theorem Orb.few {t : Tb} {n b : Nat} (g : t.Good) (o : Orb t n b) : n ≤ 2 ^ t.steps.length := orb_few g o.other
/-- it goes round -/
theorem Orb.round {t : Tb} {n b : Nat} (o : Orb t n b) : ∀ i, lotM t (n + i) = lotM t (b + i)
  | 0 => o.back
  | i + 1 => by
    show imgM t (lotM t (n + i)) = imgM t (lotM t (b + i))
    rw [o.round i]
theorem Orb.rounds {t : Tb} {n b : Nat} (o : Orb t n b) : ∀ k i, lotM t (b + i + k * (n - b)) = lotM t (b + i)
  | 0, i => by rw [Nat.zero_mul, Nat.add_zero]
  | k + 1, i => by
    have h := o.round (i + k * (n - b))
    have lt := o.lt
    rw [Nat.succ_mul, show b + i + (k * (n - b) + (n - b)) = n + (i + k * (n - b)) by omega, h, ← Nat.add_assoc]
    exact o.rounds k i
/-- ascending lists of the same numbers are one -/
theorem asc_eq : ∀ {l m : List Int}, l.Pairwise (· < ·) → m.Pairwise (· < ·) → (∀ x, x ∈ l ↔ x ∈ m) → l = m
  | [], [], _, _, _ => rfl
  | [], y :: m, _, _, h => nomatch (h y).mpr (List.mem_cons_self ..)
  | x :: l, [], _, _, h => nomatch (h x).mp (List.mem_cons_self ..)
  | x :: l, y :: m, a, b, h => by
    have a := List.pairwise_cons.mp a
    have b := List.pairwise_cons.mp b
    have e : x = y := by
      rcases List.mem_cons.mp ((h x).mp (List.mem_cons_self ..)) with e | e
      · exact e
      rcases List.mem_cons.mp ((h y).mpr (List.mem_cons_self ..)) with f | f
      · exact f.symm
      have := a.1 y f
      have := b.1 x e
      omega
    subst e
    rw [asc_eq a.2 b.2 fun z => ⟨fun hz => ?_, fun hz => ?_⟩]
    · refine (List.mem_cons.mp ((h z).mp (List.mem_cons_of_mem _ hz))).resolve_left fun e => ?_
      have := a.1 z hz
      omega
    · refine (List.mem_cons.mp ((h z).mpr (List.mem_cons_of_mem _ hz))).resolve_left fun e => ?_
      have := b.1 z hz
      omega
theorem bits_ints {k m : Nat} {ns : List Int} (h : ns.Pairwise (· < ·)) (e : ∀ x : Int, x ∈ ns ↔ ∃ s : Nat, x = (s : Int) ∧ s < k ∧ m.testBit s = true) : ns = intsL (bitsN k m) := by
  refine asc_eq h ?_ fun x => ?_
  · refine List.pairwise_map.mpr (List.Pairwise.imp ?_ (bits_asc k m))
    intro a b hab
    omega
  · rw [e, List.mem_map]
    constructor
    · rintro ⟨s, rfl, h1, h2⟩
      exact ⟨s, mem_bits.mpr ⟨h1, h2⟩, rfl⟩
    · rintro ⟨s, hs, rfl⟩
      exact ⟨s, rfl, (mem_bits.mp hs).1, (mem_bits.mp hs).2⟩
end Hw

set_option Elab.async false
set_option linter.all false
set_option maxRecDepth 100000
set_option maxHeartbeats 4000000

namespace K43
open PySem PySem.Spec PyProof.Rows L2 Hw
def topS (i : Nat) : Stmt := PySem.Challenge.pw_howeverwide_k43_whole_lots_reached.main.body.getD i (.Pass ⟨0, 0, 0, 0⟩)
abbrev s_is_whole : Stmt := topS 6
theorem sc_is_whole : FnScope ["value"] ["value"] (defScope s_is_whole) := ⟨rfl, rfl, rfl, by decide +kernel, rfl, by decide +kernel, by decide +kernel⟩
abbrev s_is_count_to : Stmt := topS 7
theorem sc_is_count_to : FnScope ["value", "most"] ["value", "most"] (defScope s_is_count_to) := ⟨rfl, rfl, rfl, by decide +kernel, rfl, by decide +kernel, by decide +kernel⟩
abbrev s_is_table_form : Stmt := topS 8
theorem sc_is_table_form : FnScope ["value", "many", "steps", "ends", "step", "end"] ["value"] (defScope s_is_table_form) := ⟨rfl, rfl, rfl, by decide +kernel, rfl, by decide +kernel, by decide +kernel⟩
abbrev s_is_step : Stmt := topS 9
theorem sc_is_step : FnScope ["value", "size", "stands", "stand"] ["value", "size", "stands"] (defScope s_is_step) := ⟨rfl, rfl, rfl, by decide +kernel, rfl, by decide +kernel, by decide +kernel⟩
abbrev s_mask_of : Stmt := topS 11
theorem sc_mask_of : FnScope ["stands", "mask", "stand"] ["stands"] (defScope s_mask_of) := ⟨rfl, rfl, rfl, by decide +kernel, rfl, by decide +kernel, by decide +kernel⟩
abbrev s_stands_of : Stmt := topS 12
theorem sc_stands_of : FnScope ["mask", "stand", "figure"] ["mask"] (defScope s_stands_of) := ⟨rfl, rfl, rfl, by decide +kernel, rfl, by decide +kernel, by decide +kernel⟩
abbrev s_masks_behind : Stmt := topS 13
theorem sc_masks_behind : FnScope ["steps", "step"] ["steps"] (defScope s_masks_behind) := ⟨rfl, rfl, rfl, by decide +kernel, rfl, by decide +kernel, by decide +kernel⟩
abbrev s_lot_behind : Stmt := topS 14
theorem sc_lot_behind : FnScope ["lot", "behind", "found", "stand"] ["lot", "behind"] (defScope s_lot_behind) := ⟨rfl, rfl, rfl, by decide +kernel, rfl, by decide +kernel, by decide +kernel⟩
abbrev s_lots_in_turn : Stmt := topS 15
theorem sc_lots_in_turn : FnScope ["steps", "most", "behind", "lots", "numbers", "lot"] ["steps", "most"] (defScope s_lots_in_turn) := ⟨rfl, rfl, rfl, by decide +kernel, rfl, by decide +kernel, by decide +kernel⟩
abbrev s_check_table : Stmt := topS 17
theorem sc_check_table : FnScope ["table"] ["table"] (defScope s_check_table) := ⟨rfl, rfl, rfl, by decide +kernel, rfl, by decide +kernel, by decide +kernel⟩
abbrev s_made_plain : Stmt := topS 20
theorem sc_made_plain : FnScope ["ahead", "turn", "size", "less", "begin"] ["ahead", "turn"] (defScope s_made_plain) := ⟨rfl, rfl, rfl, by decide +kernel, rfl, by decide +kernel, by decide +kernel⟩
abbrev s_shortest_turn : Stmt := topS 21
theorem sc_shortest_turn : FnScope ["turn", "size"] ["turn"] (defScope s_shortest_turn) := ⟨rfl, rfl, rfl, by decide +kernel, rfl, by decide +kernel, by decide +kernel⟩
abbrev s_lots_reached : Stmt := topS 23
theorem sc_lots_reached : FnScope ["table"] ["table"] (defScope s_lots_reached) := ⟨rfl, rfl, rfl, by decide +kernel, rfl, by decide +kernel, by decide +kernel⟩
abbrev s_lots_of_table : Stmt := topS 24
theorem sc_lots_of_table : FnScope ["table", "masks", "back", "lots", "mask"] ["table"] (defScope s_lots_of_table) := ⟨rfl, rfl, rfl, by decide +kernel, rfl, by decide +kernel, by decide +kernel⟩
abbrev s_taken_widths : Stmt := topS 25
theorem sc_taken_widths : FnScope ["table"] ["table"] (defScope s_taken_widths) := ⟨rfl, rfl, rfl, by decide +kernel, rfl, by decide +kernel, by decide +kernel⟩
abbrev s_full_widths : Stmt := topS 26
theorem sc_full_widths : FnScope ["table"] ["table"] (defScope s_full_widths) := ⟨rfl, rfl, rfl, by decide +kernel, rfl, by decide +kernel, by decide +kernel⟩
abbrev s_widths_where : Stmt := topS 27
theorem sc_widths_where : FnScope ["table", "some_end", "ahead", "turn", "told", "lot"] ["table", "some_end"] (defScope s_widths_where) := ⟨rfl, rfl, rfl, by decide +kernel, rfl, by decide +kernel, by decide +kernel⟩
abbrev s_is_met_lot : Stmt := topS 28
theorem sc_is_met_lot : FnScope ["table", "lot", "some_end", "ends", "stand"] ["table", "lot", "some_end"] (defScope s_is_met_lot) := ⟨rfl, rfl, rfl, by decide +kernel, rfl, by decide +kernel, by decide +kernel⟩
abbrev s_law_hash : Stmt := topS 30
theorem sc_law_hash : FnScope ["_law_seed", "_law_index", "_law_mixed"] ["_law_seed", "_law_index"] (defScope s_law_hash) := ⟨rfl, rfl, rfl, by decide +kernel, rfl, by decide +kernel, by decide +kernel⟩
abbrev s_law_random : Stmt := topS 31
theorem sc_law_random : FnScope ["_law_generator_here", "_law_bound", "_law_drawn", "_law_turn"] ["_law_generator_here", "_law_bound"] (defScope s_law_random) := ⟨rfl, rfl, rfl, by decide +kernel, rfl, by decide +kernel, by decide +kernel⟩
abbrev s_law_cell : Stmt := topS 32
theorem sc_law_cell : FnScope ["_law_script", "_law_index"] ["_law_script", "_law_index"] (defScope s_law_cell) := ⟨rfl, rfl, rfl, by decide +kernel, rfl, by decide +kernel, by decide +kernel⟩
abbrev s_law_generator : Stmt := topS 33
theorem sc_law_generator : FnScope ["_law_script", "_law_index", "_law_seed"] ["_law_script", "_law_index"] (defScope s_law_generator) := ⟨rfl, rfl, rfl, by decide +kernel, rfl, by decide +kernel, by decide +kernel⟩
abbrev s_law_plain : Stmt := topS 34
theorem sc_law_plain : FnScope ["_law_told", "_law_ahead", "_law_turn", "_law_sizes", "_law_step", "_law_size"] ["_law_told"] (defScope s_law_plain) := ⟨rfl, rfl, rfl, by decide +kernel, rfl, by decide +kernel, by decide +kernel⟩
abbrev s_law_table : Stmt := topS 35
theorem sc_law_table : FnScope ["_law_generator_here", "_law_many", "_law_size", "_law_steps", "_law_stand", "_law_letter"] ["_law_generator_here"] (defScope s_law_table) := ⟨rfl, rfl, rfl, by decide +kernel, rfl, by decide +kernel, by decide +kernel⟩
abbrev s_law_next : Stmt := topS 36
theorem sc_law_next : FnScope ["_law_table_told", "_law_lot", "_law_found", "_law_stand"] ["_law_table_told", "_law_lot"] (defScope s_law_next) := ⟨rfl, rfl, rfl, by decide +kernel, rfl, by decide +kernel, by decide +kernel⟩
abbrev s_law_rows_right : Stmt := topS 37
theorem sc_law_rows_right : FnScope ["_law_table_told", "_law_lots", "_law_stands", "_law_length", "_law_longer", "_law_stand"] ["_law_table_told", "_law_lots"] (defScope s_law_rows_right) := ⟨rfl, rfl, rfl, by decide +kernel, rfl, by decide +kernel, by decide +kernel⟩
abbrev s_law_right : Stmt := topS 38
theorem sc_law_right : FnScope ["_law_generator_here", "_law_table_told", "_law_kept", "_law_told", "_law_lots", "_law_lot", "_law_found", "_law_ends", "_law_some", "_law_whole", "_law_ahead", "_law_longer", "_law_before", "_law_stand"] ["_law_generator_here"] (defScope s_law_right) := ⟨rfl, rfl, rfl, by decide +kernel, rfl, by decide +kernel, by decide +kernel⟩
abbrev s_law : Stmt := topS 39
theorem sc_law : FnScope ["_law_script", "_law_index", "_law_told", "_law_ring"] ["_law_script"] (defScope s_law) := ⟨rfl, rfl, rfl, by decide +kernel, rfl, by decide +kernel, by decide +kernel⟩
/-- what the top has written -/
structure Tx (K : PySem.W.Frag) (mg : Str → Option Value) where
  a_is_whole : Addr
  d_is_whole : FuncData
  F_is_whole : DefAt K "is_whole" s_is_whole a_is_whole d_is_whole
  g_is_whole : mg "is_whole" = some (.ref a_is_whole)
  a_is_count_to : Addr
  d_is_count_to : FuncData
  F_is_count_to : DefAt K "is_count_to" s_is_count_to a_is_count_to d_is_count_to
  g_is_count_to : mg "is_count_to" = some (.ref a_is_count_to)
  a_is_table_form : Addr
  d_is_table_form : FuncData
  F_is_table_form : DefAt K "is_table_form" s_is_table_form a_is_table_form d_is_table_form
  g_is_table_form : mg "is_table_form" = some (.ref a_is_table_form)
  a_is_step : Addr
  d_is_step : FuncData
  F_is_step : DefAt K "is_step" s_is_step a_is_step d_is_step
  g_is_step : mg "is_step" = some (.ref a_is_step)
  a_mask_of : Addr
  d_mask_of : FuncData
  F_mask_of : DefAt K "mask_of" s_mask_of a_mask_of d_mask_of
  g_mask_of : mg "mask_of" = some (.ref a_mask_of)
  a_stands_of : Addr
  d_stands_of : FuncData
  F_stands_of : DefAt K "stands_of" s_stands_of a_stands_of d_stands_of
  g_stands_of : mg "stands_of" = some (.ref a_stands_of)
  a_masks_behind : Addr
  d_masks_behind : FuncData
  F_masks_behind : DefAt K "masks_behind" s_masks_behind a_masks_behind d_masks_behind
  g_masks_behind : mg "masks_behind" = some (.ref a_masks_behind)
  a_lot_behind : Addr
  d_lot_behind : FuncData
  F_lot_behind : DefAt K "lot_behind" s_lot_behind a_lot_behind d_lot_behind
  g_lot_behind : mg "lot_behind" = some (.ref a_lot_behind)
  a_lots_in_turn : Addr
  d_lots_in_turn : FuncData
  F_lots_in_turn : DefAt K "lots_in_turn" s_lots_in_turn a_lots_in_turn d_lots_in_turn
  g_lots_in_turn : mg "lots_in_turn" = some (.ref a_lots_in_turn)
  a_check_table : Addr
  d_check_table : FuncData
  F_check_table : DefAt K "check_table" s_check_table a_check_table d_check_table
  g_check_table : mg "check_table" = some (.ref a_check_table)
  a_made_plain : Addr
  d_made_plain : FuncData
  F_made_plain : DefAt K "made_plain" s_made_plain a_made_plain d_made_plain
  g_made_plain : mg "made_plain" = some (.ref a_made_plain)
  a_shortest_turn : Addr
  d_shortest_turn : FuncData
  F_shortest_turn : DefAt K "shortest_turn" s_shortest_turn a_shortest_turn d_shortest_turn
  g_shortest_turn : mg "shortest_turn" = some (.ref a_shortest_turn)
  a_lots_reached : Addr
  d_lots_reached : FuncData
  F_lots_reached : DefAt K "lots_reached" s_lots_reached a_lots_reached d_lots_reached
  g_lots_reached : mg "lots_reached" = some (.ref a_lots_reached)
  a_lots_of_table : Addr
  d_lots_of_table : FuncData
  F_lots_of_table : DefAt K "lots_of_table" s_lots_of_table a_lots_of_table d_lots_of_table
  g_lots_of_table : mg "lots_of_table" = some (.ref a_lots_of_table)
  a_taken_widths : Addr
  d_taken_widths : FuncData
  F_taken_widths : DefAt K "taken_widths" s_taken_widths a_taken_widths d_taken_widths
  g_taken_widths : mg "taken_widths" = some (.ref a_taken_widths)
  a_full_widths : Addr
  d_full_widths : FuncData
  F_full_widths : DefAt K "full_widths" s_full_widths a_full_widths d_full_widths
  g_full_widths : mg "full_widths" = some (.ref a_full_widths)
  a_widths_where : Addr
  d_widths_where : FuncData
  F_widths_where : DefAt K "widths_where" s_widths_where a_widths_where d_widths_where
  g_widths_where : mg "widths_where" = some (.ref a_widths_where)
  a_is_met_lot : Addr
  d_is_met_lot : FuncData
  F_is_met_lot : DefAt K "is_met_lot" s_is_met_lot a_is_met_lot d_is_met_lot
  g_is_met_lot : mg "is_met_lot" = some (.ref a_is_met_lot)
  a_law_hash : Addr
  d_law_hash : FuncData
  F_law_hash : DefAt K "_law_hash" s_law_hash a_law_hash d_law_hash
  g_law_hash : mg "_law_hash" = some (.ref a_law_hash)
  a_law_random : Addr
  d_law_random : FuncData
  F_law_random : DefAt K "_law_random" s_law_random a_law_random d_law_random
  g_law_random : mg "_law_random" = some (.ref a_law_random)
  a_law_cell : Addr
  d_law_cell : FuncData
  F_law_cell : DefAt K "_law_cell" s_law_cell a_law_cell d_law_cell
  g_law_cell : mg "_law_cell" = some (.ref a_law_cell)
  a_law_generator : Addr
  d_law_generator : FuncData
  F_law_generator : DefAt K "_law_generator" s_law_generator a_law_generator d_law_generator
  g_law_generator : mg "_law_generator" = some (.ref a_law_generator)
  a_law_plain : Addr
  d_law_plain : FuncData
  F_law_plain : DefAt K "_law_plain" s_law_plain a_law_plain d_law_plain
  g_law_plain : mg "_law_plain" = some (.ref a_law_plain)
  a_law_table : Addr
  d_law_table : FuncData
  F_law_table : DefAt K "_law_table" s_law_table a_law_table d_law_table
  g_law_table : mg "_law_table" = some (.ref a_law_table)
  a_law_next : Addr
  d_law_next : FuncData
  F_law_next : DefAt K "_law_next" s_law_next a_law_next d_law_next
  g_law_next : mg "_law_next" = some (.ref a_law_next)
  a_law_rows_right : Addr
  d_law_rows_right : FuncData
  F_law_rows_right : DefAt K "_law_rows_right" s_law_rows_right a_law_rows_right d_law_rows_right
  g_law_rows_right : mg "_law_rows_right" = some (.ref a_law_rows_right)
  a_law_right : Addr
  d_law_right : FuncData
  F_law_right : DefAt K "_law_right" s_law_right a_law_right d_law_right
  g_law_right : mg "_law_right" = some (.ref a_law_right)
  a_law : Addr
  d_law : FuncData
  F_law : DefAt K "law" s_law a_law d_law
  g_law : mg "law" = some (.ref a_law)
  z_all : mg "all" = none
  z_any : mg "any" = none
  z_bool : mg "bool" = none
  z_enumerate : mg "enumerate" = none
  z_int : mg "int" = none
  z_isinstance : mg "isinstance" = none
  z_len : mg "len" = none
  z_list : mg "list" = none
  z_max : mg "max" = none
  z_range : mg "range" = none
  z_repr : mg "repr" = none
  z_set : mg "set" = none
  z_sorted : mg "sorted" = none
  z_sum : mg "sum" = none
  z_tuple : mg "tuple" = none
  c_MOST_NAMES : ∃ u, mg "MOST_NAMES" = some u ∧ RelV (.int 6) u
  c_MOST_STANDS : ∃ u, mg "MOST_STANDS" = some u ∧ RelV (.int 2000) u
section
variable {K : PySem.W.Frag} {mg : Str → Option Value}
theorem Tx.b_is_whole (T : Tx K mg) : Binds K T.d_is_whole ["value"] [] := T.F_is_whole.bindsN fun _ _ _ _ _ _ us hl => match us, hl with | [_], _ => rfl
theorem Tx.b_is_count_to (T : Tx K mg) : Binds K T.d_is_count_to ["value", "most"] [] := T.F_is_count_to.bindsN fun _ _ _ _ _ _ us hl => match us, hl with | [_, _], _ => rfl
theorem Tx.b_is_table_form (T : Tx K mg) : Binds K T.d_is_table_form ["value"] [] := T.F_is_table_form.bindsN fun _ _ _ _ _ _ us hl => match us, hl with | [_], _ => rfl
theorem Tx.b_is_step (T : Tx K mg) : Binds K T.d_is_step ["value", "size", "stands"] [] := T.F_is_step.bindsN fun _ _ _ _ _ _ us hl => match us, hl with | [_, _, _], _ => rfl
theorem Tx.b_mask_of (T : Tx K mg) : Binds K T.d_mask_of ["stands"] [] := T.F_mask_of.bindsN fun _ _ _ _ _ _ us hl => match us, hl with | [_], _ => rfl
theorem Tx.b_stands_of (T : Tx K mg) : Binds K T.d_stands_of ["mask"] [] := T.F_stands_of.bindsN fun _ _ _ _ _ _ us hl => match us, hl with | [_], _ => rfl
theorem Tx.b_masks_behind (T : Tx K mg) : Binds K T.d_masks_behind ["steps"] [] := T.F_masks_behind.bindsN fun _ _ _ _ _ _ us hl => match us, hl with | [_], _ => rfl
theorem Tx.b_lot_behind (T : Tx K mg) : Binds K T.d_lot_behind ["lot", "behind"] [] := T.F_lot_behind.bindsN fun _ _ _ _ _ _ us hl => match us, hl with | [_, _], _ => rfl
theorem Tx.b_lots_in_turn (T : Tx K mg) : Binds K T.d_lots_in_turn ["steps", "most"] [] := T.F_lots_in_turn.bindsN fun _ _ _ _ _ _ us hl => match us, hl with | [_, _], _ => rfl
theorem Tx.b_check_table (T : Tx K mg) : Binds K T.d_check_table ["table"] [] := T.F_check_table.bindsN fun _ _ _ _ _ _ us hl => match us, hl with | [_], _ => rfl
theorem Tx.b_made_plain (T : Tx K mg) : Binds K T.d_made_plain ["ahead", "turn"] [] := T.F_made_plain.bindsN fun _ _ _ _ _ _ us hl => match us, hl with | [_, _], _ => rfl
theorem Tx.b_shortest_turn (T : Tx K mg) : Binds K T.d_shortest_turn ["turn"] [] := T.F_shortest_turn.bindsN fun _ _ _ _ _ _ us hl => match us, hl with | [_], _ => rfl
theorem Tx.b_lots_reached (T : Tx K mg) : Binds K T.d_lots_reached ["table"] [] := T.F_lots_reached.bindsN fun _ _ _ _ _ _ us hl => match us, hl with | [_], _ => rfl
theorem Tx.b_lots_of_table (T : Tx K mg) : Binds K T.d_lots_of_table ["table"] [] := T.F_lots_of_table.bindsN fun _ _ _ _ _ _ us hl => match us, hl with | [_], _ => rfl
theorem Tx.b_taken_widths (T : Tx K mg) : Binds K T.d_taken_widths ["table"] [] := T.F_taken_widths.bindsN fun _ _ _ _ _ _ us hl => match us, hl with | [_], _ => rfl
theorem Tx.b_full_widths (T : Tx K mg) : Binds K T.d_full_widths ["table"] [] := T.F_full_widths.bindsN fun _ _ _ _ _ _ us hl => match us, hl with | [_], _ => rfl
theorem Tx.b_widths_where (T : Tx K mg) : Binds K T.d_widths_where ["table", "some_end"] [] := T.F_widths_where.bindsN fun _ _ _ _ _ _ us hl => match us, hl with | [_, _], _ => rfl
theorem Tx.b_is_met_lot (T : Tx K mg) : Binds K T.d_is_met_lot ["table", "lot", "some_end"] [] := T.F_is_met_lot.bindsN fun _ _ _ _ _ _ us hl => match us, hl with | [_, _, _], _ => rfl
theorem Tx.b_law_hash (T : Tx K mg) : Binds K T.d_law_hash ["_law_seed", "_law_index"] [] := T.F_law_hash.bindsN fun _ _ _ _ _ _ us hl => match us, hl with | [_, _], _ => rfl
theorem Tx.b_law_random (T : Tx K mg) : Binds K T.d_law_random ["_law_generator_here", "_law_bound"] [] := T.F_law_random.bindsN fun _ _ _ _ _ _ us hl => match us, hl with | [_, _], _ => rfl
theorem Tx.b_law_cell (T : Tx K mg) : Binds K T.d_law_cell ["_law_script", "_law_index"] [] := T.F_law_cell.bindsN fun _ _ _ _ _ _ us hl => match us, hl with | [_, _], _ => rfl
theorem Tx.b_law_generator (T : Tx K mg) : Binds K T.d_law_generator ["_law_script", "_law_index"] [] := T.F_law_generator.bindsN fun _ _ _ _ _ _ us hl => match us, hl with | [_, _], _ => rfl
theorem Tx.b_law_plain (T : Tx K mg) : Binds K T.d_law_plain ["_law_told"] [] := T.F_law_plain.bindsN fun _ _ _ _ _ _ us hl => match us, hl with | [_], _ => rfl
theorem Tx.b_law_table (T : Tx K mg) : Binds K T.d_law_table ["_law_generator_here"] [] := T.F_law_table.bindsN fun _ _ _ _ _ _ us hl => match us, hl with | [_], _ => rfl
theorem Tx.b_law_next (T : Tx K mg) : Binds K T.d_law_next ["_law_table_told", "_law_lot"] [] := T.F_law_next.bindsN fun _ _ _ _ _ _ us hl => match us, hl with | [_, _], _ => rfl
theorem Tx.b_law_rows_right (T : Tx K mg) : Binds K T.d_law_rows_right ["_law_table_told", "_law_lots"] [] := T.F_law_rows_right.bindsN fun _ _ _ _ _ _ us hl => match us, hl with | [_, _], _ => rfl
theorem Tx.b_law_right (T : Tx K mg) : Binds K T.d_law_right ["_law_generator_here"] [] := T.F_law_right.bindsN fun _ _ _ _ _ _ us hl => match us, hl with | [_], _ => rfl
theorem Tx.b_law (T : Tx K mg) : Binds K T.d_law ["_law_script"] [] := T.F_law.bindsN fun _ _ _ _ _ _ us hl => match us, hl with | [_], _ => rfl
theorem Tx.w_full_widths_table (T : Tx K mg) : KwB T.d_full_widths ["table"] ["table"] (fun ws => match ws with | [x0] => [x0] | _ => []) (fun ws => match ws with | [x0] => [x0] | _ => []) := by
  obtain ⟨oc, od, dV, kV, doc, pm, an, cdv, ct, osl, e, _, _, hD, _⟩ := T.F_full_widths.ex
  have ed : dV = .none := hD.elim And.right fun z => (z.1 rfl).elim
  subst ed
  refine ⟨fun s ws hl => ?_, fun {zs ws} hl r => ?_⟩
  · rw [e]
    match ws, hl with | [_], _ => exact .of_eq rfl
  · match zs, ws, r with | [_], [_], .cons r0 .nil => exact .cons r0 .nil
theorem Tx.w_lots_reached_table (T : Tx K mg) : KwB T.d_lots_reached ["table"] ["table"] (fun ws => match ws with | [x0] => [x0] | _ => []) (fun ws => match ws with | [x0] => [x0] | _ => []) := by
  obtain ⟨oc, od, dV, kV, doc, pm, an, cdv, ct, osl, e, _, _, hD, _⟩ := T.F_lots_reached.ex
  have ed : dV = .none := hD.elim And.right fun z => (z.1 rfl).elim
  subst ed
  refine ⟨fun s ws hl => ?_, fun {zs ws} hl r => ?_⟩
  · rw [e]
    match ws, hl with | [_], _ => exact .of_eq rfl
  · match zs, ws, r with | [_], [_], .cons r0 .nil => exact .cons r0 .nil
theorem Tx.w_taken_widths_table (T : Tx K mg) : KwB T.d_taken_widths ["table"] ["table"] (fun ws => match ws with | [x0] => [x0] | _ => []) (fun ws => match ws with | [x0] => [x0] | _ => []) := by
  obtain ⟨oc, od, dV, kV, doc, pm, an, cdv, ct, osl, e, _, _, hD, _⟩ := T.F_taken_widths.ex
  have ed : dV = .none := hD.elim And.right fun z => (z.1 rfl).elim
  subst ed
  refine ⟨fun s ws hl => ?_, fun {zs ws} hl r => ?_⟩
  · rw [e]
    match ws, hl with | [_], _ => exact .of_eq rfl
  · match zs, ws, r with | [_], [_], .cons r0 .nil => exact .cons r0 .nil
end

/-! ### the law's own random numbers -/
section
variable {P : Program} {w : World} {K : PySem.W.Frag} {mg : Str → Option Value} {base : Heap}
/-- the seed is a rest by 2147483647, the index not far -/
def spHash : Sp := fun vs H Q _ => ∃ a b : Int, vs = [.int a, .int b] ∧ 0 ≤ a ∧ a < 2147483648 ∧ 0 ≤ b ∧ b < 4294967296 ∧ ∀ r : Int, 0 ≤ r → r < 2147483647 → Q (.int r) H
theorem nlt {i : Int} {n : Nat} (h0 : 0 ≤ i) (h : i < 2 ^ n) : i.natAbs < 2 ^ n := by
  have e : ((2 ^ n : Nat) : Int) = (2 : Int) ^ n := by rw [Int.natCast_pow]; rfl
  omega
theorem ok_law_hash (T : Tx K mg) : FnG P w K mg base CX0 1 T.a_law_hash T.d_law_hash ["_law_seed", "_law_index"] spHash := by
  refine bodyG0 T.F_law_hash sc_law_hash (fun vs H Q E h => ?_) (fun cdv A outer s H vs Q E gd hr h => ?_)
  · obtain ⟨a, b, rfl, _⟩ := h; rfl
  · obtain ⟨a, b, rfl, a0, a1, b0, b1, q⟩ := h
    refine ⟨_, (pss_cons (ps_set (i := 2) sc_law_hash.nd rfl (Or.inl rfl) (pe_op op_mod (pe_callTy call_int1 (by rfl) T.z_int (by decide +kernel) (pa_cons (pe_op op_add (pe_op op_add (pe_op op_add (pe_op op_mulX (pv 0) pe_int) (pe_op op_mulX (pe_op op_mulX pe_int (pv 1)) (pv 1))) (pe_op op_mulX pe_int (pv 1))) pe_int) pa_nil)) pe_int))
      (pss_cons (ps_set (i := 2) sc_law_hash.nd rfl (Or.inl rfl) (pe_op op_mod (pe_callTy call_int1 (by rfl) T.z_int (by decide +kernel) (pa_cons (pe_op op_add (pe_op op_add (pe_op op_mulX (pv 2) (pv 2)) (pe_op op_mulX pe_int (pv 1))) pe_int) pa_nil)) pe_int))
      (pss_one (ps_ret (pe_op op_mod (pe_callTy call_int1 (by rfl) T.z_int (by decide +kernel) (pa_cons (pe_op op_mulX (pv 2) pe_int) pa_nil)) pe_int))))), ?_⟩
    have ha : a.natAbs < 2 ^ 31 := nlt a0 a1
    have hb : b.natAbs < 2 ^ 32 := nlt b0 b1
    refine ⟨_, rfl, _, _, rfl, rfl, mulx_ok ha (b := 31) (by decide) (by decide), _, rfl, _, _, rfl, rfl, mulx_ok (a := 31) (by decide) hb (by decide), _, rfl, _, _, rfl, rfl, mulx_ok (wide_lt (a := 31) (by decide) hb) hb (by decide), _, _, rfl, rfl, _, rfl, _, _, rfl, rfl, mulx_ok (a := 31) (by decide) hb (by decide), _, _, rfl, rfl, _, _, rfl, rfl, .inl ⟨_, rfl, _, _, rfl, rfl, (by decide : (0 : Int) < 2147483629), ?_⟩⟩
    dsimp only
    generalize (a * 1140671 + 27644437 * b * b + 131 * b + 19) = x1
    have x0 := Int.emod_nonneg x1 (by decide : (2147483629 : Int) ≠ 0)
    have x2 := Int.emod_lt_of_pos x1 (by decide : (0 : Int) < 2147483629)
    generalize x1 % 2147483629 = x at x0 x2
    have hx : x.natAbs < 2 ^ 31 := nlt x0 (by omega)
    refine ⟨_, rfl, _, rfl, _, _, rfl, rfl, mulx_ok hx hx (by decide), _, rfl, _, _, rfl, rfl, mulx_ok (a := 31) (by decide) hb (by decide), _, _, rfl, rfl, _, _, rfl, rfl, .inl ⟨_, rfl, _, _, rfl, rfl, (by decide : (0 : Int) < 2147483587), ?_⟩⟩
    dsimp only
    generalize (x * x + 62089 * b + 32416187) = y1
    have y0 := Int.emod_nonneg y1 (by decide : (2147483587 : Int) ≠ 0)
    have y2 := Int.emod_lt_of_pos y1 (by decide : (0 : Int) < 2147483587)
    generalize y1 % 2147483587 = y at y0 y2
    have hy : y.natAbs < 2 ^ 31 := nlt y0 (by omega)
    refine ⟨_, rfl, _, _, rfl, rfl, mulx_ok hy (b := 31) (by decide) (by decide), .inl ⟨_, rfl, _, _, rfl, rfl, (by decide : (0 : Int) < 2147483647), ?_⟩⟩
    exact q _ (Int.emod_nonneg _ (by decide)) (Int.emod_lt_of_pos _ (by decide))

/-- the generator: what is left of a great seed, the seed's rest, the index -/
structure GenOk (s t c m : Int) : Prop where
  s0 : 0 ≤ s
  s1 : s < 2 ^ 2000
  t0 : 0 ≤ t
  t1 : t < 2147483648
  c0 : 0 ≤ c
  c1 : c ≤ m
def genL (s t c : Int) : HO := .lst [.int s, .int t, .int c]
/-- a draw below a bound: the generator's list at a is another one; the index grows by a hundred at most -/
def spRandom : Sp := fun vs H Q _ => ∃ (a : Addr) (b s t c m : Int), vs = [.ref a, .int b] ∧ H a = some (genL s t c) ∧ GenOk s t c m ∧ m + 100 < 4294967296 ∧ 0 < b ∧ b < 2 ^ 2000 ∧
  ∀ (r s' c' : Int), 0 ≤ r → r < b → GenOk s' t c' (m + 100) → Q (.int r) (upd H a (genL s' t c'))
theorem bits_le_of {b : Int} {n : Nat} (h0 : 0 ≤ b) (h : b < 2 ^ n) : Builtin.Int.intBits b ≤ n := PyProof.Rows.intBits_le (nlt h0 h)
theorem ok_law_random (T : Tx K mg) : FnG P w K mg base CX0 2 T.a_law_random T.d_law_random ["_law_generator_here", "_law_bound"] spRandom := by
  have G_law_hash := ok_law_hash (P := P) (w := w) (base := base) T
  refine bodyG0 T.F_law_random sc_law_random (fun vs H Q E h => ?_) (fun cdv A outer s H vs Q E gd hr h => ?_)
  · obtain ⟨a, b, s, t, c, m, rfl, _⟩ := h; rfl
  · obtain ⟨a, b, s, t, c, m, rfl, hg, ok, hm, b0, b1, q⟩ := h
    obtain ⟨s0, s1, t0, t1, c0, c1⟩ := ok
    have sq : SqL K H a [.int s, .int t, .int c] := .inl (.inl hg)
    refine ⟨_, (pss_cons (ps_if (pt_cmpR op_gt (pe_ix (ix_listK (K := K) rfl) (pv 0) pe_int (fun _ _ => rfl)) pe_int (nomark _)) (pss_cons (ps_set (i := 2) sc_law_random.nd rfl (Or.inl rfl) (pe_op op_mod (pe_callTy call_int1 (by rfl) T.z_int (by decide +kernel) (pa_cons (pe_ix (ix_listK (K := K) rfl) (pv 0) pe_int (fun _ _ => rfl)) pa_nil)) (pv 1)))
      (pss_cons (ps_asg (pe_op op_fdivW (pe_ix (ix_listK (K := K) rfl) (pv 0) pe_int (fun _ _ => rfl)) (pv 1)) (pg_sub (pv 0) pe_int set_list))
      (pss_one (ps_ret (pv 2))))) pss_nil)
      (pss_cons (ps_set (i := 2) sc_law_random.nd rfl (Or.inl rfl) pe_int)
      (pss_cons (ps_for PassesOwn.never rfl (pi_range1 (by rfl) T.z_range (pa_cons (pe_op op_add pe_int (pe_op op_fdivW (pe_bits (pv 1)) pe_int)) pa_nil)) (pg_name (i := 3) sc_law_random.nd rfl (Or.inl rfl)) (pss_cons (ps_asg (pe_op op_add (pe_ix (ix_listK (K := K) rfl) (pv 0) pe_int (fun _ _ => rfl)) pe_int) (pg_sub (pv 0) pe_int set_list))
      (pss_one (ps_set (i := 2) sc_law_random.nd rfl (Or.inl rfl) (pe_op op_add (pe_op op_mulX (pv 2) pe_int) (pe_g G_law_hash gd (hr.mono (by decide)) (by rfl) T.g_law_hash T.F_law_hash.kp T.b_law_hash .nil pass0 (pa_cons (pe_ix (ix_listK (K := K) rfl) (pv 0) pe_int (fun _ _ => rfl)) (pa_cons (pe_ix (ix_listK (K := K) rfl) (pv 0) pe_int (fun _ _ => rfl)) pa_nil))))))))
      (pss_one (ps_ret (pe_op op_mod (pe_callTy call_int1 (by rfl) T.z_int (by decide +kernel) (pa_cons (pv 2) pa_nil)) (pv 1))))))), ?_⟩
    refine ⟨_, rfl, _, _, _, _, rfl, rfl, sq, atI_nat (j := 0) rfl, _, _, rfl, rfl, _, rfl, ?_⟩
    by_cases hs : 0 < s
    · rw [decide_eq_true hs]
      refine iteT ⟨_, rfl, _, _, _, _, rfl, rfl, sq, atI_nat (j := 0) rfl, .inl ⟨_, rfl, _, rfl, _, _, rfl, rfl, b0, ?_⟩⟩
      refine ⟨_, rfl, _, _, _, _, rfl, rfl, sq, atI_nat (j := 0) rfl, _, rfl, _, _, rfl, rfl, wide_div b0 (nlt (Int.le_of_lt b0) b1) (by decide) (by decide), ?_⟩
      refine ⟨_, rfl, a, _, _, 0, rfl, rfl, hg, rfl, ?_⟩
      refine ⟨_, rfl, ?_⟩
      have d0 := Int.ediv_nonneg s0 (Int.le_of_lt b0)
      have d1 : s / b ≤ s := Int.ediv_le_self b s0
      exact q _ _ _ (Int.emod_nonneg _ (by omega)) (Int.emod_lt_of_pos _ b0) ⟨d0, by omega, t0, t1, c0, by omega⟩
    · rw [decide_eq_false hs]
      refine iteF ?_
      have hbits := bits_le_of (Int.le_of_lt b0) b1
      have hq : ((1 : Int) + (Builtin.Int.intBits b : Nat) / 30) = ((1 + Builtin.Int.intBits b / 30 : Nat) : Int) := by rw [Int.natCast_add, Int.natCast_ediv]; rfl
      refine ⟨_, rfl, b, rfl, _, _, rfl, rfl, wide_div (b := 5) (by decide) (by decide) (by decide) (by decide), _, _, rfl, rfl, ((1 + Builtin.Int.intBits b / 30 : Nat) : Int), by rw [← hq], by omega, by omega, ?_⟩
      refine for_range (n := 1 + Builtin.Int.intBits b / 30) (fun i σ H' => ∃ (d : Int) (y : Option V), σ = [some (.ref a), some (.int b), some (.int d), y] ∧ H' = upd H a (genL s t (c + i)) ∧ 0 ≤ d ∧ d < 2 ^ (31 * i)) ⟨0, none, rfl, ?_, by decide, by decide⟩ ?_ ?_
      · rw [show c + ((0 : Nat) : Int) = c by omega]
        funext x
        unfold upd
        by_cases hx : x = a
        · rw [if_pos hx, hx, hg]
        · rw [if_neg hx]
      · rintro i σ H' hi ⟨d, y, rfl, rfl, d0, d1⟩
        have up : (upd H a (genL s t (c + i))) a = some (genL s t (c + i)) := upd_same
        have sq1 : SqL K (upd H a (genL s t (c + i))) a [.int s, .int t, .int (c + i)] := .inl (.inl up)
        refine ⟨_, rfl, _, _, _, _, rfl, rfl, sq1, atI_nat (j := 2) rfl, _, _, rfl, rfl, _, rfl, a, _, _, 2, rfl, rfl, up, rfl, ?_⟩
        have up2 : (upd (upd H a (genL s t (c + i))) a (.lst ([V.int s, .int t, .int (c + i)].set 2 (.int (c + i + 1))))) a = some (genL s t (c + i + 1)) := upd_same
        have sq2 : SqL K (upd (upd H a (genL s t (c + i))) a (.lst ([V.int s, .int t, .int (c + i)].set 2 (.int (c + i + 1))))) a [.int s, .int t, .int (c + i + 1)] := .inl (.inl up2)
        refine ⟨_, rfl, _, _, rfl, rfl, mulx_ok (nlt d0 d1) (b := 31) (by decide) (by omega), ?_⟩
        refine ⟨_, rfl, _, _, _, _, rfl, rfl, sq2, atI_nat (j := 1) rfl, _, rfl, _, _, _, _, rfl, rfl, sq2, atI_nat (j := 2) rfl, _, _, rfl, t0, t1, by omega, by omega, fun r r0 r1 => ⟨_, _, rfl, rfl, ?_⟩⟩
        refine ⟨d * 2147483587 + r, _, rfl, ?_, by omega, ?_⟩
        · rw [show c + ((i + 1 : Nat) : Int) = c + i + 1 by omega]
          exact upd_upd
        · have e : (2 : Int) ^ (31 * (i + 1)) = 2 ^ (31 * i) * 2147483648 := by
            rw [Nat.mul_add, Int.pow_add]; rfl
          have p : (1 : Int) ≤ 2 ^ (31 * i) := Int.pow_pos (by decide)
          rw [e]
          generalize (2 : Int) ^ (31 * i) = B at d1 p
          omega
      · rintro σ H' ⟨d, y, rfl, rfl, d0, d1⟩
        refine ⟨_, rfl, .inl ⟨_, rfl, _, rfl, _, _, rfl, rfl, b0, ?_⟩⟩
        exact q _ _ _ (Int.emod_nonneg _ (by omega)) (Int.emod_lt_of_pos _ b0) ⟨s0, s1, t0, t1, by omega, by omega⟩

theorem same_new {H : Hp} {p : Addr} {o : HO} (h : H p = none) : Same H (upd H p o) := fun b x e => by
  rw [upd_ne (ne_of_none e h)]
  exact e
theorem cut_first {α : Type} (f : α → V) (xs : List α) : cutV (xs.map f) none (some 1) = (xs.take 1).map f := by
  unfold cutV
  rw [HT.sIx_none, show HT.sIx (xs.map f).length (xs.map f).length (some 1) = min 1 (xs.map f).length from HT.sIx_nat _ _ 1]
  cases xs with
  | nil => rfl
  | cons x r =>
    rw [show min 1 ((x :: r).map f).length = 1 by rw [List.length_map, List.length_cons]; omega]
    rfl
def spCell (K : PySem.W.Frag) : Sp := fun vs H Q _ => ∃ (a : Addr) (ns : List Int) (j : Nat), vs = [.ref a, .int j] ∧ SqL K H a (ns.map V.int) ∧ ∀ (r : Int) (H' : Hp), Same H H' → Q (.int r) H'
theorem ok_law_cell (T : Tx K mg) : FnG P w K mg base CX0 1 T.a_law_cell T.d_law_cell ["_law_script", "_law_index"] (spCell K) := by
  refine bodyG0 T.F_law_cell sc_law_cell (fun vs H Q E h => ?_) (fun cdv A outer s H vs Q E gd hr h => ?_)
  · obtain ⟨a, ns, j, rfl, _⟩ := h; rfl
  · obtain ⟨a, ns, j, rfl, hS, q⟩ := h
    refine ⟨_, (pss_cons (ps_if (pt_cmpR op_lt (pv 1) (pe_callB (call_lenK (K := K) rfl) (by rfl) T.z_len (by decide +kernel) (pa_cons (pv 0) pa_nil)) (nomark _)) (pss_one (ps_ret (pe_ix (ix_listK (K := K) rfl) (pv 0) (pv 1) (fun _ _ => rfl)))) pss_nil)
      (pss_one (ps_ret (pe_op op_mod (pe_callB (cr_sumK (K := K) rfl rfl) (by rfl) T.z_sum (by decide +kernel) (pa_cons (pe_slice (sl_listK (K := K) rfl) (pv 0) po_none (po_some pe_int)) pa_nil)) pe_int)))), ?_⟩
    refine ⟨_, rfl, _, rfl, a, _, rfl, .inl hS, _, _, rfl, rfl, _, rfl, ?_⟩
    by_cases hj : ((j : Nat) : Int) < ((ns.map V.int).length : Nat)
    · rw [decide_eq_true hj]
      have hj2 : j < ns.length := by rw [List.length_map] at hj; omega
      refine iteT ⟨_, rfl, _, rfl, _, _, _, _, rfl, rfl, hS, atI_nat (j := j) (v := .int (ns[j])) ?_, q _ _ (Same.refl H)⟩
      rw [List.getElem?_map, List.getElem?_eq_getElem hj2]
      rfl
    · rw [decide_eq_false hj]
      refine iteF ⟨_, rfl, 1, rfl, a, _, rfl, hS, fun p hp => ?_⟩
      refine ⟨p, ns.take 1, rfl, .inl (.inl ?_), _, _, rfl, rfl, (by decide : (0 : Int) < 1000003), q _ _ (same_new hp)⟩
      rw [upd_same, cut_first]
def spGenerator (K : PySem.W.Frag) : Sp := fun vs H Q _ => ∃ (a : Addr) (ns : List Int) (j : Nat), vs = [.ref a, .int j] ∧ j ≤ 1000 ∧ SqL K H a (ns.map V.int) ∧
  ∀ (g : Addr) (H' : Hp) (s t c : Int), Same H H' → H g = none → H' g = some (genL s t c) → GenOk s t c (1000 * j) → Q (.ref g) H'
theorem ok_law_generator (T : Tx K mg) : FnG P w K mg base CX0 2 T.a_law_generator T.d_law_generator ["_law_script", "_law_index"] (spGenerator K) := by
  have G_law_cell := ok_law_cell (P := P) (w := w) (base := base) T
  refine bodyG0 T.F_law_generator sc_law_generator (fun vs H Q E h => ?_) (fun cdv A outer s H vs Q E gd hr h => ?_)
  · obtain ⟨a, ns, j, rfl, _⟩ := h; rfl
  · obtain ⟨a, ns, j, rfl, hj, hS, q⟩ := h
    refine ⟨_, (pss_cons (ps_set (i := 2) sc_law_generator.nd rfl (Or.inl rfl) (pe_g G_law_cell gd (hr.mono (by decide)) (by rfl) T.g_law_cell T.F_law_cell.kp T.b_law_cell .nil pass0 (pa_cons (pv 0) (pa_cons (pv 1) pa_nil))))
      (pss_one (ps_ret (pe_lst (pa_cons (pe_op op_mod (pe_callTy call_int1 (by rfl) T.z_int (by decide +kernel) (pa_cons (pe_callB (call_max2 rfl) (by rfl) T.z_max (by decide +kernel) (pa_cons (pe_op op_sub (pv 2) (pe_op op_powW pe_int pe_int)) (pa_cons pe_int pa_nil))) pa_nil)) (pe_op op_powW (pe_op op_powW pe_int pe_int) pe_int)) (pa_cons (pe_op op_mod (pe_callTy call_int1 (by rfl) T.z_int (by decide +kernel) (pa_cons (pv 2) pa_nil)) pe_int) (pa_cons (pe_op op_mulX pe_int (pv 1)) pa_nil))))))), ?_⟩
    refine ⟨_, rfl, _, rfl, a, ns, j, rfl, hS, fun r H' sm => ?_⟩
    have e10 : ((10 : Int) ^ 60).natAbs < 2 ^ 200 := by decide +kernel
    refine ⟨_, rfl, _, _, rfl, rfl, powW_ok (n := 4) (j := 18) (by decide) (by decide), _, _, rfl, rfl, _, _, rfl, .inl ⟨_, rfl, ?_⟩⟩
    refine ⟨_, _, rfl, rfl, powW_ok (n := 4) (j := 60) (by decide) (by decide), _, _, rfl, rfl, powW_ok (n := 200) (j := 10) e10 (by decide), _, _, rfl, rfl, (by decide +kernel : (0 : Int) < (10 ^ 60) ^ 10), ?_⟩
    refine ⟨_, rfl, .inl ⟨_, rfl, _, _, rfl, rfl, (by decide : (0 : Int) < 2147483647), ?_⟩⟩
    refine ⟨_, rfl, _, _, rfl, rfl, mulx_ok (a := 10) (b := 10) (by decide) (by omega) (by decide), by show 3 ≤ sizeLine; rw [sizeLine_eq]; decide, fun g hg => ?_⟩
    have big : ((10 : Int) ^ 60) ^ 10 < 2 ^ 2000 := by decide +kernel
    have m1 := Int.emod_lt_of_pos (if r - 10 ^ 18 < 0 then 0 else r - 10 ^ 18) (by decide +kernel : (0 : Int) < (10 ^ 60) ^ 10)
    refine q g _ _ _ _ (sm.trans (same_new hg)) (sm.free hg) upd_same ⟨Int.emod_nonneg _ (by decide +kernel), Int.lt_trans (Int.emod_lt_of_pos _ (by decide +kernel)) big, Int.emod_nonneg _ (by decide), Int.lt_trans (Int.emod_lt_of_pos _ (by decide)) (by decide), by omega, by omega⟩
end

/-- the generator stands at a, its index is at most m -/
def Gn (a : Addr) (t m : Int) (H : Hp) : Prop := ∃ s c : Int, H a = some (genL s t c) ∧ GenOk s t c m
theorem GenOk.up {s t c m m' : Int} (o : GenOk s t c m) (h : m ≤ m') : GenOk s t c m' := ⟨o.s0, o.s1, o.t0, o.t1, o.c0, Int.le_trans o.c1 h⟩
theorem Gn.up {a : Addr} {t m m' : Int} {H : Hp} (g : Gn a t m H) (h : m ≤ m') : Gn a t m' H := by
  obtain ⟨s, c, e, o⟩ := g
  exact ⟨s, c, e, o.up h⟩
theorem Gn.keep {a p : Addr} {t m : Int} {H : Hp} {o : HO} (g : Gn a t m H) (h : p ≠ a) : Gn a t m (upd H p o) := by
  obtain ⟨s, c, e, k⟩ := g
  exact ⟨s, c, by rw [upd_ne h.symm]; exact e, k⟩
theorem Gn.same {a : Addr} {t m : Int} {H H' : Hp} (g : Gn a t m H) (s : Same H H') : Gn a t m H' := by
  obtain ⟨x, c, e, k⟩ := g
  exact ⟨x, c, s _ _ e, k⟩
theorem Gn.ne {a p : Addr} {t m : Int} {H : Hp} (g : Gn a t m H) (h : H p = none) : p ≠ a := fun e => by
  obtain ⟨s, c, q, _⟩ := g
  rw [e, q] at h
  cases h
theorem off_mono {D : Addr} {H H' : Hp} (e : Same H H') : Same (off D H) (off D H') := fun b o h => by
  obtain ⟨n, h⟩ := off_at h
  exact off_of n (e b o h)
theorem off_upd {D : Addr} {H : Hp} {o : HO} : off D (upd H D o) = off D H := by
  funext b
  unfold off
  by_cases h : b = D
  · rw [if_pos h, if_pos h]
  · rw [if_neg h, if_neg h, upd_ne h]
theorem SameX.new {a p : Addr} {H H' : Hp} {o : HO} (e : SameX a H H') (h : H p = none) : SameX a H (upd H' p o) := fun b x n hb => by
  rw [upd_ne (ne_of_none hb h)]
  exact e b x n hb
theorem SameX.free {a p : Addr} {t m : Int} {H H' : Hp} (e : SameX a H H') (g : Gn a t m H') (h : H' p = none) : H p = none := by
  cases q : H p with
  | none => rfl
  | some o =>
    have := e p o (g.ne h) q
    rw [h] at this
    cases this
section
variable {P : Program} {w : World} {K : PySem.W.Frag} {mg : Str → Option Value} {base : Heap}
def spRnd : Sp := fun vs H Q _ => ∃ (a : Addr) (b : Nat) (t m : Int), vs = [.ref a, .int b] ∧ Gn a t m H ∧ m + 100 < 4294967296 ∧ 0 < b ∧ b < 2 ^ 2000 ∧
  ∀ (r : Nat) (H' : Hp), r < b → SameX a H H' → Gn a t (m + 100) H' → Q (.int r) H'
theorem ok_rnd (T : Tx K mg) : FnG P w K mg base CX0 2 T.a_law_random T.d_law_random ["_law_generator_here", "_law_bound"] spRnd := by
  refine (ok_law_random T).weak fun vs H Q E h => ?_
  obtain ⟨a, b, t, m, rfl, ⟨s, c, e, ok⟩, hm, b0, b1, q⟩ := h
  have b2 : (b : Int) < 2 ^ 2000 := by
    have : ((2 ^ 2000 : Nat) : Int) = (2 : Int) ^ 2000 := by rw [Int.natCast_pow]; rfl
    rw [← this]
    exact Int.ofNat_lt.mpr b1
  refine ⟨a, b, s, t, c, m, rfl, e, ok, hm, by omega, b2, fun r s' c' r0 r1 ok' => ?_⟩
  have q := q r.toNat (upd H a (genL s' t c')) (by omega) SameX.upd ⟨s', c', upd_same, ok'⟩
  rw [Int.toNat_of_nonneg r0] at q
  exact q
end

end K43

set_option Elab.async false
set_option linter.all false
set_option maxRecDepth 100000
set_option maxHeartbeats 4000000
namespace K43
open PySem PySem.Spec PyProof.Rows L2 Hw
section
variable {P : Program} {w : World} {K : PySem.W.Frag} {mg : Str → Option Value} {base : Heap}
def whole (d : PyData) : Bool := isInt d && !isBool d
def cnt (d : PyData) (m : Int) : Bool := match d with
  | .int i => decide (0 ≤ i) && decide (i ≤ m)
  | _ => false
def spWhole : Sp := fun vs H Q _ => ∃ (x : V) (d : PyData), vs = [x] ∧ Dt H x d ∧ Q (.bl (whole d)) H
theorem ok_is_whole (T : Tx K mg) : FnG P w K mg base CX0 1 T.a_is_whole T.d_is_whole ["value"] spWhole := by
  refine bodyG0 T.F_is_whole sc_is_whole (fun vs H Q E h => ?_) (fun cdv A outer s H vs Q E gd hr h => ?_)
  · obtain ⟨x, d, rfl, _⟩ := h; rfl
  · obtain ⟨x, d, rfl, hd, q⟩ := h
    refine ⟨_, (pss_one (ps_ret (pe_and (pe_callB call_isD (by rfl) T.z_isinstance (by decide +kernel) (pa_cons (pv 0) (pa_cons (pe_bltn (v := .ty "int") (by rfl) T.z_int (by decide +kernel) rfl) pa_nil))) (pe_one (pe_not (pe_callB call_isD (by rfl) T.z_isinstance (by decide +kernel) (pa_cons (pv 0) (pa_cons (pe_bltn (v := .ty "bool") (by rfl) T.z_bool (by decide +kernel) rfl) pa_nil)))))))), ?_⟩
    refine ⟨_, rfl, x, d, _, _, rfl, hd, kit_int d, _, rfl, ?_⟩
    unfold whole at q
    cases hi : isInt d with
    | true =>
      rw [hi] at q
      exact iteT ⟨_, rfl, x, d, _, _, rfl, hd, kit_bool d, _, rfl, q⟩
    | false =>
      rw [hi] at q
      exact iteF q
def spCountTo : Sp := fun vs H Q _ => ∃ (x : V) (d : PyData) (m : Int), vs = [x, .int m] ∧ Dt H x d ∧ Q (.bl (cnt d m)) H
theorem ok_is_count_to (T : Tx K mg) : FnG P w K mg base CX0 2 T.a_is_count_to T.d_is_count_to ["value", "most"] spCountTo := by
  have G_is_whole := ok_is_whole (P := P) (w := w) (base := base) T
  refine bodyG0 T.F_is_count_to sc_is_count_to (fun vs H Q E h => ?_) (fun cdv A outer s H vs Q E gd hr h => ?_)
  · obtain ⟨x, d, m, rfl, _⟩ := h; rfl
  · obtain ⟨x, d, m, rfl, hd, q⟩ := h
    refine ⟨_, (pss_one (ps_ret (pe_and (pe_g G_is_whole gd (hr.mono (by decide)) (by rfl) T.g_is_whole T.F_is_whole.kp T.b_is_whole .nil pass0 (pa_cons (pv 0) pa_nil)) (pe_one (pe_chain op_le op_le pe_int (pv 0) (pv 1)))))), ?_⟩
    refine ⟨_, rfl, x, d, rfl, hd, _, rfl, ?_⟩
    cases hd with
    | int i =>
      refine iteT ⟨_, rfl, _, _, rfl, rfl, _, rfl, ?_⟩
      have q : Q (.bl (decide (0 ≤ i) && decide (i ≤ m))) H := q
      by_cases h0 : 0 ≤ i
      · rw [decide_eq_true h0] at q ⊢
        exact iteT ⟨_, rfl, _, _, rfl, rfl, q⟩
      · rw [decide_eq_false h0] at q ⊢
        exact iteF q
    | _ => exact iteF q
theorem all_true {α : Type} : ∀ l : List α, (l.map fun _ => true).all id = true
  | [] => rfl
  | _ :: r => by rw [List.map_cons, List.all_cons, all_true r]; rfl
def stepB (d : PyData) (size stands : Int) : Bool := match d with
  | .list ds => decide ((ds.length : Int) = size) && ds.all fun x => cnt x (stands - 1)
  | _ => false
def spStep : Sp := fun vs H Q _ => ∃ (x : V) (d : PyData) (size stands : Int), vs = [x, .int size, .int stands] ∧ Dt H x d ∧ Nice d ∧ ∀ H', Same H H' → Q (.bl (stepB d size stands)) H'
theorem len_of_nice {ds : List PyData} (h : Nice (.list ds)) : ds.length ≤ 262144 := by
  have key : ∀ l : List PyData, l.length ≤ PyData.bulkAll l := by
    intro l
    induction l with
    | nil => exact Nat.zero_le _
    | cons x r ih =>
      simp only [PyData.bulkAll, List.length_cons]
      omega
  have := h.small
  simp only [PyData.bulk] at this
  exact Nat.le_trans (key ds) this
theorem ok_is_step (T : Tx K mg) : FnG P w K mg base CX0 3 T.a_is_step T.d_is_step ["value", "size", "stands"] spStep := by
  have G_is_count_to := ok_is_count_to (P := P) (w := w) (base := base) T
  refine bodyG0 T.F_is_step sc_is_step (fun vs H Q E h => ?_) (fun cdv A outer s H vs Q E gd hr h => ?_)
  · obtain ⟨x, d, size, stands, rfl, _⟩ := h; rfl
  · obtain ⟨x, d, size, stands, rfl, hd, nd, q⟩ := h
    refine ⟨_, (pss_cons (ps_if (PW.pt (pw_or (pt_not (pt_val (pe_callB call_isD (by rfl) T.z_isinstance (by decide +kernel) (pa_cons (pv 0) (pa_cons (pe_bltn (v := .ty "list") (by rfl) T.z_list (by decide +kernel) rfl) pa_nil))))) (pw_or1 (pt_cmpR op_ne (pe_callB (call_lenK (K := K) rfl) (by rfl) T.z_len (by decide +kernel) (pa_cons (pv 0) pa_nil)) (pv 1) (nomark _))))) (pss_one (ps_ret pe_bl)) pss_nil)
      (pss_one (ps_ret (pe_callB (cr_allK (K := K) rfl rfl) (by rfl) T.z_all (by decide +kernel) (pa_cons (pe_lc (own := [("stand", 3)]) (g := gName 3) (tt := tYes) rfl sc_is_step.nd (pi_list (pv 0)) (blkOk_by (N := ["value", "size", "stands", "stand"]) (sc := defScope s_is_step) (by decide +kernel)) (fun _ _ _ _ _ => (pg_name (i := 3) sc_is_step.nd rfl (Or.inl rfl))) (fun _ _ _ _ _ => pts_nil) (fun _ _ _ _ _ => (pe_g G_is_count_to gd (hr.mono (by decide)) (by rfl) T.g_is_count_to T.F_is_count_to.kp T.b_is_count_to .nil pass0 (pa_cons (pv 3) (pa_cons (pe_op op_sub (pv 2) pe_int) pa_nil))))) pa_nil))))), ?_⟩
    refine ⟨_, rfl, x, d, _, _, rfl, hd, kit_list d, _, rfl, ?_⟩
    cases hd with
    | @lst a xs ds ha hs =>
      have sq : SqL K H a xs := .inl (.inl ha)
      have hlen : xs.length = ds.length := hs.len
      have hz := len_of_nice nd
      refine iteF ⟨_, rfl, a, xs, rfl, .inl sq, _, rfl, rfl, _, rfl, ?_⟩
      have q : ∀ H', Same H H' → Q (.bl (decide ((ds.length : Int) = size) && ds.all fun x => cnt x (stands - 1))) H' := q
      rw [vi, hlen]
      by_cases hsz : (ds.length : Int) = size
      · rw [decide_eq_true hsz] at q ⊢
        refine iteF ⟨_, rfl, a, rfl, ⟨_, sq⟩, fun D hD => ?_⟩
        let f : Nat → Bool := fun i => match ds[i]? with
          | some y => cnt y (stands - 1)
          | none => false
        refine lc_list (K := K) (a := a) (xs := xs) (fun i H' => Same H H' ∧ H' D = some (.lst ((List.range i).map fun i => V.bl (f i)))) ⟨same_new' hD, upd_same⟩ (fun i H' _ e => e.1.seq sq) ?_ ?_
        · rintro i y H' hi ⟨s1, e1⟩
          obtain ⟨c, hc, hy⟩ := hs.get i y hi
          have il : i < xs.length := (List.getElem?_eq_some_iff.mp hi).1
          refine ⟨rfl, yes_if ?_⟩
          refine ⟨_, rfl, _, rfl, _, _, rfl, rfl, y, c, _, rfl, hy.to s1, ?_⟩
          have ef : f i = cnt c (stands - 1) := by
            show (match ds[i]? with
              | some y => cnt y (stands - 1)
              | none => false) = _
            rw [hc]
          dsimp only
          rw [← ef]
          exact lcS (f := fun i => V.bl (f i)) hD s1 e1 (by omega)
        · rintro H' ⟨s1, e1⟩
          refine ⟨D, (List.range xs.length).map f, rfl, .inl (.inl ?_), ?_⟩
          · rw [e1, List.map_map]
            rfl
          · have e : ((List.range xs.length).map f).all id = ds.all fun x => cnt x (stands - 1) := by
              rw [hlen, Bool.eq_iff_iff, List.all_eq_true, List.all_eq_true]
              constructor
              · intro h y hy
                obtain ⟨i, hi, e⟩ := List.getElem_of_mem hy
                have h2 := h (f i) (List.mem_map.mpr ⟨i, List.mem_range.mpr hi, rfl⟩)
                have ef : f i = cnt y (stands - 1) := by
                  show (match ds[i]? with
                    | some y => cnt y (stands - 1)
                    | none => false) = _
                  rw [List.getElem?_eq_getElem hi, e]
                rw [← ef]
                exact h2
              · intro h b hb
                obtain ⟨i, hi, rfl⟩ := List.mem_map.mp hb
                have hi := List.mem_range.mp hi
                show (match ds[i]? with
                    | some y => cnt y (stands - 1)
                    | none => false) = true
                rw [List.getElem?_eq_getElem hi]
                exact h _ (List.getElem_mem hi)
            rw [e]
            exact q _ s1
      · rw [decide_eq_false hsz] at q ⊢
        exact iteT (q H (Same.refl H))
    | _ => exact iteT (q H (Same.refl H))
def wh : PyData → Int
  | .int k => k
  | _ => 0
def items : PyData → List PyData
  | .list ds => ds
  | _ => []
def tabL (k : Int) (ss es : List PyData) : Bool := !decide ((ss.length : Int) = 0) && (decide ((ss.length : Int) = es.length) && (es.all isBool && ss.all fun x => stepB x (1 * 2 ^ k.toNat) ss.length))
def tab3 (m s e : PyData) : Bool := cnt m 6 && (isList s && (isList e && tabL (wh m) (items s) (items e)))
def tabB (d : PyData) : Bool := match d with
  | .tuple [m, s, e] => tab3 m s e
  | _ => false
theorem tabB_len {ds : List PyData} (h : ¬ (ds.length : Int) = 3) : tabB (.tuple ds) = false := by
  match ds, h with
  | [], _ => rfl
  | [_], _ => rfl
  | [_, _], _ => rfl
  | [_, _, _], h => exact absurd rfl h
  | _ :: _ :: _ :: _ :: _, _ => rfl
def spForm : Sp := fun vs H Q _ => ∃ (x : V) (d : PyData), vs = [x] ∧ Dt H x d ∧ (isTuple d = true → Nice d) ∧ ∀ H', Same H H' → Q (.bl (tabB d)) H'
theorem ok_is_table_form (T : Tx K mg) : FnG P w K mg base CX0 4 T.a_is_table_form T.d_is_table_form ["value"] spForm := by
  have G_is_count_to := ok_is_count_to (P := P) (w := w) (base := base) T
  have G_is_step := ok_is_step (P := P) (w := w) (base := base) T
  refine bodyG0 T.F_is_table_form sc_is_table_form (fun vs H Q E h => ?_) (fun cdv A outer s H vs Q E gd hr h => ?_)
  · obtain ⟨x, d, rfl, _⟩ := h; rfl
  · obtain ⟨x, d, rfl, hd, nd, q⟩ := h
    refine ⟨_, (pss_cons (ps_if (PW.pt (pw_or (pt_not (pt_val (pe_callB call_isD (by rfl) T.z_isinstance (by decide +kernel) (pa_cons (pv 0) (pa_cons (pe_bltn (v := .ty "tuple") (by rfl) T.z_tuple (by decide +kernel) rfl) pa_nil))))) (pw_or1 (pt_cmpR op_ne (pe_callB (call_lenK (K := K) rfl) (by rfl) T.z_len (by decide +kernel) (pa_cons (pv 0) pa_nil)) pe_int (nomark _))))) (pss_one (ps_ret pe_bl)) pss_nil)
      (pss_cons (ps_asg (pv 0) (pg_tup (by rfl) (pgs_cons (pg_name (i := 1) sc_is_table_form.nd rfl (Or.inr rfl)) (pgs_cons (pg_name (i := 2) sc_is_table_form.nd rfl (Or.inr rfl)) (pgs_cons (pg_name (i := 3) sc_is_table_form.nd rfl (Or.inl rfl)) pgs_nil)))))
      (pss_cons (ps_if (PW.pt (pw_or (pt_not (pt_val (pe_g G_is_count_to gd (hr.mono (by decide)) (by rfl) T.g_is_count_to T.F_is_count_to.kp T.b_is_count_to .nil pass0 (pa_cons (pv 1) (pa_cons (C8.pe_gc (by rfl) T.c_MOST_NAMES) pa_nil))))) (pw_or (pt_not (pt_val (pe_callB call_isD (by rfl) T.z_isinstance (by decide +kernel) (pa_cons (pv 2) (pa_cons (pe_bltn (v := .ty "list") (by rfl) T.z_list (by decide +kernel) rfl) pa_nil))))) (pw_or1 (pt_not (pt_val (pe_callB call_isD (by rfl) T.z_isinstance (by decide +kernel) (pa_cons (pv 3) (pa_cons (pe_bltn (v := .ty "list") (by rfl) T.z_list (by decide +kernel) rfl) pa_nil))))))))) (pss_one (ps_ret pe_bl)) pss_nil)
      (pss_cons (ps_if (PW.pt (pw_or (pt_cmpR op_eq (pe_callB (call_lenK (K := K) rfl) (by rfl) T.z_len (by decide +kernel) (pa_cons (pv 2) pa_nil)) pe_int (nomark _)) (pw_or1 (pt_cmpR op_ne (pe_callB (call_lenK (K := K) rfl) (by rfl) T.z_len (by decide +kernel) (pa_cons (pv 2) pa_nil)) (pe_callB (call_lenK (K := K) rfl) (by rfl) T.z_len (by decide +kernel) (pa_cons (pv 3) pa_nil)) (nomark _))))) (pss_one (ps_ret pe_bl)) pss_nil)
      (pss_cons (ps_if (pt_not (pt_val (pe_callB (cr_allK (K := K) rfl rfl) (by rfl) T.z_all (by decide +kernel) (pa_cons (pe_lc (own := [("end", 5)]) (g := gName 5) (tt := tYes) rfl sc_is_table_form.nd (pi_list (pv 3)) (blkOk_by (N := ["value", "many", "steps", "ends", "step", "end"]) (sc := defScope s_is_table_form) (by decide +kernel)) (fun _ _ _ _ _ => (pg_name (i := 5) sc_is_table_form.nd rfl (Or.inl rfl))) (fun _ _ _ _ _ => pts_nil) (fun _ _ _ _ _ => (pe_callB call_isD (by rfl) T.z_isinstance (by decide +kernel) (pa_cons (pv 5) (pa_cons (pe_bltn (v := .ty "bool") (by rfl) T.z_bool (by decide +kernel) rfl) pa_nil))))) pa_nil)))) (pss_one (ps_ret pe_bl)) pss_nil)
      (pss_one (ps_ret (pe_callB (cr_allK (K := K) rfl rfl) (by rfl) T.z_all (by decide +kernel) (pa_cons (pe_lc (own := [("step", 4)]) (g := gName 4) (tt := tYes) rfl sc_is_table_form.nd (pi_list (pv 2)) (blkOk_by (N := ["value", "many", "steps", "ends", "step", "end"]) (sc := defScope s_is_table_form) (by decide +kernel)) (fun _ _ _ _ _ => (pg_name (i := 4) sc_is_table_form.nd rfl (Or.inl rfl))) (fun _ _ _ _ _ => pts_nil) (fun _ _ _ _ _ => (pe_g G_is_step gd (hr.mono (by decide)) (by rfl) T.g_is_step T.F_is_step.kp T.b_is_step .nil pass0 (pa_cons (pv 4) (pa_cons (pe_op op_shlW pe_int (pv 1)) (pa_cons (pe_callB (call_lenK (K := K) rfl) (by rfl) T.z_len (by decide +kernel) (pa_cons (pv 2) pa_nil)) pa_nil)))))) pa_nil))))))))), ?_⟩
    refine ⟨_, rfl, x, d, _, _, rfl, hd, kit_tuple d, _, rfl, ?_⟩
    cases hd with
    | @tup a xs ds ha hs =>
      have nd := nd rfl
      have sq : SqT K H a xs := .inl (.inl ha)
      refine iteF ⟨_, rfl, a, xs, rfl, .inr sq, rfl, _, rfl, ?_⟩
      rw [vi, hs.len]
      by_cases h3 : (ds.length : Int) = 3
      · rw [decide_eq_true h3]
        refine iteF ?_
        obtain ⟨m, st, en, rfl⟩ : ∃ m st en, ds = [m, st, en] := by
          match ds, h3 with
          | [m, st, en], _ => exact ⟨m, st, en, rfl⟩
          | [], h => simp at h
          | [_], h => simp at h
          | [_, _], h => simp at h
          | _ :: _ :: _ :: _ :: r, h => simp only [List.length_cons] at h; omega
        cases hs with
        | @cons vm _ _ _ hm hs =>
        cases hs with
        | @cons vst _ _ _ hst hs =>
        cases hs with
        | @cons ven _ _ _ hen hs =>
        cases hs with
        | nil =>
        have nst : Nice st := nd.tupMem st (by simp)
        have nen : Nice en := nd.tupMem en (by simp)
        refine ⟨_, rfl, a, _, rfl, sq, rfl, vm, _, rfl, vst, _, rfl, ven, _, rfl, rfl, ?_⟩
        have q : ∀ H', Same H H' → Q (.bl (cnt m 6 && (isList st && (isList en && tabL (wh m) (items st) (items en))))) H' := q
        refine ⟨_, rfl, vm, m, 6, rfl, hm, _, rfl, ?_⟩
        cases hm6 : cnt m 6 with
        | false =>
          rw [hm6] at q
          exact iteT (q H (Same.refl H))
        | true =>
          rw [hm6] at q
          refine iteF ⟨_, rfl, vst, st, _, _, rfl, hst, kit_list st, _, rfl, ?_⟩
          cases hst with
          | @lst b ys ss hb hss =>
            refine iteF ⟨_, rfl, ven, en, _, _, rfl, hen, kit_list en, _, rfl, ?_⟩
            cases hen with
            | @lst c zs es hc hes =>
              have sqb : SqL K H b ys := .inl (.inl hb)
              have sqc : SqL K H c zs := .inl (.inl hc)
              obtain ⟨k, rfl, k6⟩ : ∃ k : Nat, m = .int (k : Int) ∧ k ≤ 6 := by
                cases m with
                | int k =>
                  have z : (decide (0 ≤ k) && decide (k ≤ 6)) = true := hm6
                  obtain ⟨z1, z2⟩ := Bool.and_eq_true_iff.mp z
                  have z1 := of_decide_eq_true z1
                  have z2 := of_decide_eq_true z2
                  exact ⟨k.toNat, by rw [Int.toNat_of_nonneg z1], by omega⟩
                | _ => cases hm6
              cases hm
              have q : ∀ H', Same H H' → Q (.bl (!decide ((ss.length : Int) = 0) && (decide ((ss.length : Int) = es.length) && (es.all isBool && ss.all fun x => stepB x (1 * 2 ^ (k : Int).toNat) ss.length)))) H' := q
              refine iteF ⟨_, rfl, b, ys, rfl, .inl sqb, rfl, _, rfl, ?_⟩
              rw [vi, hss.len]
              by_cases h0 : (ss.length : Int) = 0
              · rw [decide_eq_true h0] at q ⊢
                exact iteT (q H (Same.refl H))
              rw [decide_eq_false h0] at q ⊢
              refine iteF ⟨_, rfl, b, ys, rfl, .inl sqb, _, rfl, c, zs, rfl, .inl sqc, rfl, _, rfl, ?_⟩
              rw [vi, hss.len, hes.len]
              by_cases hl : (ss.length : Int) = es.length
              · rw [decide_eq_true hl] at q ⊢
                have ze := len_of_nice nen
                have zs' := len_of_nice nst
                have le := hes.len
                have ls := hss.len
                refine iteF ⟨_, rfl, c, rfl, ⟨_, sqc⟩, fun D hD => ?_⟩
                refine lc_list (K := K) (a := c) (xs := zs) (fun i H' => Same H H' ∧ H' D = some (.lst ((List.range i).map fun i => V.bl (atF es isBool i)))) ⟨same_new' hD, upd_same⟩ (fun i H' _ e => e.1.seq sqc) ?_ ?_
                · rintro i y H' hi ⟨s1, e1⟩
                  obtain ⟨d, hdi, hy⟩ := hes.get i y hi
                  have il : i < zs.length := (List.getElem?_eq_some_iff.mp hi).1
                  refine ⟨rfl, yes_if ?_⟩
                  refine ⟨_, rfl, y, d, _, _, rfl, hy.to s1, kit_bool d, ?_⟩
                  rw [← atF_at (g := isBool) hdi]
                  exact lcS (f := fun i => V.bl (atF es isBool i)) hD s1 e1 (by omega)
                · rintro H' ⟨s1, e1⟩
                  refine ⟨D, (List.range zs.length).map (atF es isBool), rfl, .inl (.inl ?_), _, rfl, ?_⟩
                  · rw [e1, List.map_map]
                    rfl
                  rw [le, all_atF]
                  cases hb2 : es.all isBool with
                  | false =>
                    rw [hb2] at q
                    exact iteT (q H' s1)
                  | true =>
                    rw [hb2] at q
                    have sqb' := s1.seq sqb
                    refine iteF ⟨_, rfl, b, rfl, ⟨_, sqb'⟩, fun D2 hD2 => ?_⟩
                    refine lc_list (K := K) (a := b) (xs := ys) (fun i H2 => Same H' H2 ∧ H2 D2 = some (.lst ((List.range i).map fun i => V.bl (atF ss (fun x => stepB x (1 * 2 ^ (k : Int).toNat) ss.length) i)))) ⟨same_new' hD2, upd_same⟩ (fun i H2 _ e => e.1.seq sqb') ?_ ?_
                    · rintro i y H2 hi ⟨s2, e2⟩
                      obtain ⟨d, hdi, hy⟩ := hss.get i y hi
                      have il : i < ys.length := (List.getElem?_eq_some_iff.mp hi).1
                      have nl := nst.listMem d (List.mem_of_getElem? hdi)
                      refine ⟨rfl, yes_if ?_⟩
                      refine ⟨_, rfl, _, rfl, _, _, rfl, rfl, shl_ok (n := 1) (by decide) (by omega), _, rfl, b, ys, rfl, .inl (s2.seq sqb'), y, d, _, _, rfl, hy.to (s1.trans s2), nl, fun H3 s3 => ?_⟩
                      rw [ls, ← atF_at (g := fun x => stepB x (1 * 2 ^ (k : Int).toNat) ss.length) hdi]
                      exact lcS (f := fun i => V.bl (atF ss (fun x => stepB x (1 * 2 ^ (k : Int).toNat) ss.length) i)) hD2 (s2.trans s3) (s3 _ _ e2) (by omega)
                    · rintro H2 ⟨s2, e2⟩
                      refine ⟨D2, (List.range ys.length).map (atF ss fun x => stepB x (1 * 2 ^ (k : Int).toNat) ss.length), rfl, .inl (.inl ?_), ?_⟩
                      · rw [e2, List.map_map]
                        rfl
                      rw [ls, all_atF]
                      exact q H2 (s1.trans s2)
              · rw [decide_eq_false hl] at q ⊢
                exact iteT (q H (Same.refl H))
            | _ => exact iteT (q H (Same.refl H))
          | _ => exact iteT (q H (Same.refl H))
      · rw [tabB_len h3] at q
        rw [decide_eq_false h3]
        exact iteT (q H (Same.refl H))
    | _ => exact iteT (q H (Same.refl H))
theorem good_form {t : Tb} (g : t.Good) : tabB t.d = true := by
  show tab3 _ _ _ = true
  unfold tab3
  have h1 : cnt (.int (t.many : Int)) 6 = true := by
    show (decide (0 ≤ (t.many : Int)) && decide ((t.many : Int) ≤ 6)) = true
    have := g.many
    rw [decide_eq_true (show 0 ≤ (t.many : Int) by omega), decide_eq_true (show (t.many : Int) ≤ 6 by omega)]; rfl
  rw [h1]
  show (true && (true && tabL (t.many : Int) (t.steps.map fun l => PyData.list (natD l)) (t.ends.map PyData.bool))) = true
  have g1 := g.some
  have g2 := g.same
  unfold tabL
  simp only [List.length_map, Bool.true_and, Bool.and_eq_true, Bool.not_eq_true', decide_eq_false_iff_not, decide_eq_true_eq]
  refine ⟨by omega, by omega, ?_, ?_⟩
  · rw [List.all_eq_true]
    intro x hx
    obtain ⟨b, _, rfl⟩ := List.mem_map.mp hx
    rfl
  · rw [List.all_eq_true]
    intro x hx
    obtain ⟨l, hl, rfl⟩ := List.mem_map.mp hx
    show (decide (((natD l).length : Int) = 1 * 2 ^ (t.many : Int).toNat) && (natD l).all fun x => cnt x ((t.steps.length : Int) - 1)) = true
    rw [List.length_map, g.line l hl, Int.toNat_natCast, Int.one_mul, Int.natCast_pow]
    refine Bool.and_eq_true_iff.mpr ⟨decide_eq_true rfl, ?_⟩
    rw [List.all_eq_true]
    intro y hy
    obtain ⟨n, hn, rfl⟩ := List.mem_map.mp hy
    have := g.stand l hl n hn
    show (decide (0 ≤ (n : Int)) && decide ((n : Int) ≤ (t.steps.length : Int) - 1)) = true
    rw [decide_eq_true (show 0 ≤ (n : Int) by omega), decide_eq_true (show (n : Int) ≤ (t.steps.length : Int) - 1 by omega)]; rfl
theorem small1000 {n : Nat} (h : n ≤ 1000) : n < sizeLine := by rw [sizeLine_eq]; omega
theorem natV_len (l : List Nat) : (natV l).length = l.length := List.length_map ..
def spCheckTable : Sp := fun vs H Q _ => ∃ (x : V) (d : PyData), vs = [x] ∧ Dt H x d ∧ Nice d ∧ tabB d = true ∧ ∀ H', Same H H' → Q .non H'
theorem ok_check_table (T : Tx K mg) : FnG P w K mg base CX0 5 T.a_check_table T.d_check_table ["table"] spCheckTable := by
  have G_is_table_form := ok_is_table_form (P := P) (w := w) (base := base) T
  refine bodyG0 T.F_check_table sc_check_table (fun vs H Q E h => ?_) (fun cdv A outer s H vs Q E gd hr h => ?_)
  · obtain ⟨x, d, rfl, _⟩ := h; rfl
  · obtain ⟨x, d, rfl, hd, nd, ht, q⟩ := h
    refine ⟨_, (pss_one (ps_if (pt_not (pt_val (pe_g G_is_table_form gd (hr.mono (by decide)) (by rfl) T.g_is_table_form T.F_is_table_form.kp T.b_is_table_form .nil pass0 (pa_cons (pv 0) pa_nil)))) (pss_one ps_never) pss_nil)), ?_⟩
    refine ⟨_, rfl, x, d, rfl, hd, fun _ => nd, fun H' e => ?_⟩
    rw [ht]
    exact ⟨true, rfl, iteF (q H' e)⟩

theorem mask_step {l : List Nat} {i x : Nat} (h : l[i]? = some x) : maskN (l.take (i + 1)) = maskN (l.take i) ||| 2 ^ x := by
  unfold maskN
  rw [List.take_add_one, h, List.foldl_append]
  rfl
theorem shl1 (x : Nat) : (1 : Int) * 2 ^ ((x : Int)).toNat = ((2 ^ x : Nat) : Int) := by
  rw [Int.toNat_natCast, Int.one_mul, Int.natCast_pow]
  rfl
def spMask : Sp := fun vs H Q _ => ∃ (x : V) (l : List Nat), vs = [x] ∧ Dt H x (lotD l) ∧ Few l ∧ Q (.int (maskN l : Nat)) H
theorem ok_mask_of (T : Tx K mg) : FnG P w K mg base CX0 1 T.a_mask_of T.d_mask_of ["stands"] spMask := by
  refine bodyG0 T.F_mask_of sc_mask_of (fun vs H Q E h => ?_) (fun cdv A outer s H vs Q E gd hr h => ?_)
  · obtain ⟨x, l, rfl, _⟩ := h; rfl
  · obtain ⟨x, l, rfl, hd, few, q⟩ := h
    refine ⟨_, (pss_cons (ps_set (i := 1) sc_mask_of.nd rfl (Or.inl rfl) pe_int)
      (pss_cons (ps_for PassesOwn.never rfl (pi_list (pv 0)) (pg_name (i := 2) sc_mask_of.nd rfl (Or.inl rfl)) (pss_one (ps_aug (i := 1) sc_mask_of.nd rfl (Or.inl rfl) (pe_op op_shlW pe_int (pv 2)) iop_or)))
      (pss_one (ps_ret (pv 1))))), ?_⟩
    obtain ⟨a, rfl, ha⟩ := Dt.nats_at' hd
    have sq : SqL K H a (natV l) := .inl (.inl ha)
    refine ⟨_, rfl, a, rfl, ⟨_, sq⟩, ?_⟩
    refine for_list (K := K) (a := a) (xs := natV l) (fun i σ H' => H' = H ∧ ∃ z : Option V, σ = [some (.ref a), some (.int (maskN (l.take i) : Nat)), z]) ⟨rfl, none, rfl⟩ (fun i σ H' _ e => by rw [e.1]; exact sq) ?_ ?_
    · rintro i x σ H' hi ⟨rfl, z, rfl⟩
      obtain ⟨b, hb, rfl⟩ := nat_get hi
      have lt := few.2 b (List.mem_of_getElem? hb)
      refine ⟨_, rfl, _, rfl, _, _, rfl, rfl, (by exact shl_ok (n := 1) (by decide) (by omega)), _, _, rfl, rfl, rfl, some (.int (b : Int)), ?_⟩
      rw [shl1]
      show [some (V.ref a), some (V.int (Builtin.bitOr (maskN (l.take i) : Nat) ((2 ^ b : Nat) : Int))), some (V.int (b : Int))] = _
      rw [bor_nat, ← mask_step hb]
    · rintro σ H' ⟨rfl, z, rfl⟩
      rw [natV_len, List.take_length]
      exact ⟨_, rfl, q⟩

theorem bits_len_eq {n k : Nat} (h : n < 2 ^ k) : bitsN (binL n).reverse.length n = bitsN k n := by
  have h1 := bits_more (n := n) (k := (binL n).reverse.length) (max k (binL n).reverse.length) (by omega) (revB_high n)
  have h2 := bits_more (n := n) (k := k) (max k (binL n).reverse.length) (by omega) (fun i hi => Nat.testBit_lt_two_pow (Nat.lt_of_lt_of_le h (Nat.pow_le_pow_right (by decide) hi)))
  rw [← h1, h2]
theorem one_fig {n i c : Nat} (h : c = figB n i) : decide (V.str ⟨#[c]⟩ = V.str "1") = n.testBit i := by
  subst h
  unfold figB
  cases n.testBit i <;> decide
theorem bits_step (k n : Nat) : bitsN (k + 1) n = bitsN k n ++ (if n.testBit k = true then [k] else []) := by
  unfold bitsN
  rw [List.range_succ, List.filter_append]
  congr 1
  cases h : n.testBit k with
  | true => rw [List.filter_cons_of_pos h]; rfl
  | false => rw [List.filter_cons_of_neg (by rw [h]; decide)]; rfl
def spStands : Sp := fun vs H Q _ => ∃ n k : Nat, vs = [.int n] ∧ n < 2 ^ k ∧ k ≤ 500 ∧ ∀ (p : Addr) (H' : Hp), Same H H' → H p = none → H' p = some (.lst (natV (bitsN k n))) → Q (.ref p) H'
theorem ok_stands_of (T : Tx K mg) : FnG P w K mg base CX0 1 T.a_stands_of T.d_stands_of ["mask"] spStands := by
  refine bodyG0 T.F_stands_of sc_stands_of (fun vs H Q E h => ?_) (fun cdv A outer s H vs Q E gd hr h => ?_)
  · obtain ⟨n, k, rfl, _⟩ := h; rfl
  · obtain ⟨n, k, rfl, hk, k5, q⟩ := h
    refine ⟨_, (pss_one (ps_ret (pe_lc (own := [("stand", 1), ("figure", 2)]) (g := gTup K 2 (gCons (gName 1) (gCons (gName 2) gNil))) rfl sc_stands_of.nd (pi_enumS (by rfl) T.z_enumerate (pa_cons (pe_rev (pe_joined1 (pe_fmtB (pv 0) (pe_joined1 pe_str))) (po_some (pe_un un_neg pe_int))) pa_nil)) (blkOk_by (N := ["mask", "stand", "figure"]) (sc := defScope s_stands_of) (by decide +kernel)) (fun _ _ _ _ _ => (pg_tup (by rfl) (pgs_cons (pg_name (i := 1) sc_stands_of.nd rfl (Or.inl rfl)) (pgs_cons (pg_name (i := 2) sc_stands_of.nd rfl (Or.inl rfl)) pgs_nil)))) (fun _ _ _ _ _ => (pts_one (pt_cmpR op_eq (pv 2) pe_str (nomark _)))) (fun _ _ _ _ _ => (pv 1))))), ?_⟩
    have len := revB_len k n (Nat.lt_of_lt_of_le hk (Nat.pow_le_pow_right (by decide) (Nat.le_succ k)))
    have e0 := bits_len_eq hk
    have e1 : (revT (binT n)).cps = ((List.range (binL n).reverse.length).map (figB n)).toArray := by
      rw [← rev_eq]
      rfl
    have sz : (revT (binT n)).cps.size = (binL n).reverse.length := by rw [e1]; simp
    have szb : (binT n).length ≤ sizeLine := by
      show (binL n).toArray.size ≤ sizeLine
      rw [List.size_toArray, sizeLine_eq]
      rw [List.length_reverse] at len
      omega
    refine ⟨_, rfl, n, rfl, szb, _, rfl, _, rfl, _, rfl, rfl, szb, _, rfl, fun D hD => ?_⟩
    refine lc_it walk_enumS (fun i H' => Same H H' ∧ H' D = some (.lst (natV (bitsN i n)))) ⟨same_new' hD, upd_same⟩ (fun i H' _ e => trivial) ?_ ?_
    · rintro i x H2 H3 hi ⟨s2, e2⟩ ⟨T', c, hc, rfl, hT, rfl⟩
      have hc : c = figB n i := by
        rw [e1] at hc
        rw [sz] at hi
        rw [List.getElem?_toArray, List.getElem?_map, List.getElem?_range hi] at hc
        exact (Option.some.inj hc).symm
      refine ⟨T', [.int i, .str ⟨#[c]⟩], rfl, .inl (.inl upd_same), rfl, _, _, rfl, _, _, rfl, rfl, ?_⟩
      have nD : D ≠ T' := ne_of_none e2 hT
      have s3 := s2.trans (same_new' (o := .tup [.int i, .str ⟨#[c]⟩]) hT)
      have e3 : (upd H2 T' (.tup [.int i, .str ⟨#[c]⟩])) D = some (.lst (natV (bitsN i n))) := by rw [upd_ne nD]; exact e2
      revert s3 e3
      generalize (upd H2 T' (.tup [.int i, .str ⟨#[c]⟩])) = H3
      intro s3 e3
      refine ⟨rfl, _, rfl, rfl, _, rfl, ?_⟩
      rw [one_fig hc]
      have bs := bits_step i n
      cases hb : n.testBit i with
      | true =>
        rw [hb, if_pos rfl] at bs
        have lb := bits_len i n
        refine iteT ⟨_, rfl, _, e3, by rw [natV_len]; exact small1000 (by omega), fun g o hg => ?_, ?_⟩
        · rw [upd_ne (ne_of_none hg hD)]
          exact s3 g o hg
        · rw [upd_same, bs, natV_snoc']
      | false =>
        rw [hb, if_neg Bool.false_ne_true, List.append_nil] at bs
        exact iteF ⟨s3, by rw [bs]; exact e3⟩
    · rintro H2 ⟨s2, e2⟩
      rw [sz, e0] at e2
      exact q D H2 s2 hD e2

end

end K43

set_option Elab.async false
set_option linter.all false
set_option maxRecDepth 100000
set_option maxHeartbeats 4000000
namespace K43
open PySem PySem.Spec PyProof.Rows L2 Hw
section
variable {P : Program} {w : World} {K : PySem.W.Frag} {mg : Str → Option Value} {base : Heap}

/-- the steps stand at b -/
structure StepsAt (H : Hp) (b : Addr) (ys : List V) (t : Tb) : Prop where
  at_ : H b = some (.lst ys)
  len : ys.length = t.steps.length
  row : ∀ (i : Nat) (l : List Nat), t.steps[i]? = some l → ∃ r : Addr, ys[i]? = some (V.ref r) ∧ H r = some (.lst (natV l))
theorem StepsAt.to {H H' : Hp} {b : Addr} {ys : List V} {t : Tb} (s : StepsAt H b ys t) (e : Same H H') : StepsAt H' b ys t :=
  ⟨e _ _ s.at_, s.len, fun i l h => let ⟨r, h1, h2⟩ := s.row i l h; ⟨r, h1, e _ _ h2⟩⟩
/-- a small table -/
structure Sm (t : Tb) : Prop where
  good : t.Good
  few : t.steps.length ≤ 6
  narrow : t.many ≤ 2
theorem Sm.row {t : Tb} (s : Sm t) {i : Nat} {l : List Nat} (h : t.steps[i]? = some l) : l.length ≤ 4 ∧ ∀ x ∈ l, x < t.steps.length := by
  have m := List.mem_of_getElem? h
  have e : 2 ^ t.many ≤ 4 := Nat.pow_le_pow_right (by decide) s.narrow
  exact ⟨by rw [s.good.line l m]; exact e, s.good.stand l m⟩
theorem Sm.fewRow {t : Tb} (s : Sm t) {i : Nat} {l : List Nat} (h : t.steps[i]? = some l) : Few l := ⟨by have := (s.row h).1; omega, fun x hx => by have := (s.row h).2 x hx; have := s.few; omega⟩
theorem Sm.pow {t : Tb} (s : Sm t) : 2 ^ t.steps.length ≤ 64 := Nat.pow_le_pow_right (by decide) s.few
def spBehindM : Sp := fun vs H Q _ => ∃ (b : Addr) (ys : List V) (t : Tb), vs = [.ref b] ∧ StepsAt H b ys t ∧ Sm t ∧ ∀ (p : Addr) (H' : Hp), Same H H' → H p = none → H' p = some (.lst (natV (t.steps.map maskN))) → Q (.ref p) H'
theorem ok_masks_behind (T : Tx K mg) : FnG P w K mg base CX0 2 T.a_masks_behind T.d_masks_behind ["steps"] spBehindM := by
  have G_mask_of := ok_mask_of (P := P) (w := w) (base := base) T
  refine bodyG0 T.F_masks_behind sc_masks_behind (fun vs H Q E h => ?_) (fun cdv A outer s H vs Q E gd hr h => ?_)
  · obtain ⟨b, ys, t, rfl, _⟩ := h; rfl
  · obtain ⟨b, ys, t, rfl, st, sm, q⟩ := h
    refine ⟨_, (pss_one (ps_ret (pe_lc (own := [("step", 1)]) (g := gName 1) (tt := tYes) rfl sc_masks_behind.nd (pi_list (pv 0)) (blkOk_by (N := ["steps", "step"]) (sc := defScope s_masks_behind) (by decide +kernel)) (fun _ _ _ _ _ => (pg_name (i := 1) sc_masks_behind.nd rfl (Or.inl rfl))) (fun _ _ _ _ _ => pts_nil) (fun _ _ _ _ _ => (pe_g G_mask_of gd (hr.mono (by decide)) (by rfl) T.g_mask_of T.F_mask_of.kp T.b_mask_of .nil pass0 (pa_cons (pv 1) pa_nil)))))), ?_⟩
    have sq : SqL K H b ys := .inl (.inl st.at_)
    have z6 := sm.few
    refine ⟨_, rfl, b, rfl, ⟨_, sq⟩, fun D hD => ?_⟩
    refine lc_list (K := K) (a := b) (xs := ys) (fun i H' => Same H H' ∧ H' D = some (.lst (natV ((t.steps.take i).map maskN)))) ⟨same_new' hD, upd_same⟩ (fun i H' _ e => e.1.seq sq) ?_ ?_
    · rintro i x H1 hi ⟨s1, e1⟩
      have il : i < t.steps.length := by rw [← st.len]; exact (List.getElem?_eq_some_iff.mp hi).1
      have hl := List.getElem?_eq_getElem il
      generalize t.steps[i] = l at hl
      obtain ⟨r, hr1, hr2⟩ := st.row i l hl
      rw [hr1] at hi
      cases hi
      refine ⟨rfl, yes_if ?_⟩
      refine ⟨_, rfl, .ref r, l, rfl, Dt.nats (s1 _ _ hr2), sm.fewRow hl, ?_⟩
      refine ⟨_, e1, by rw [natV_len, List.length_map, List.length_take]; exact small1000 (by omega), fun g o hg => ?_, ?_⟩
      · rw [upd_ne (ne_of_none hg hD)]
        exact s1 g o hg
      · rw [upd_same, natV_snoc', List.take_add_one, hl, List.map_append]
        rfl
    · rintro H1 ⟨s1, e1⟩
      rw [st.len, List.take_length] at e1
      exact q D H1 s1 hD e1

def spLotBehind : Sp := fun vs H Q _ => ∃ (m : Nat) (c : Addr) (t : Tb), vs = [.int m, .ref c] ∧ H c = some (.lst (natV (t.steps.map maskN))) ∧ Sm t ∧ m < 2 ^ t.steps.length ∧ ∀ H', Same H H' → Q (.int (imgM t m : Nat)) H'
theorem fold_step {f : Nat → Nat} {l : List Nat} {i x : Nat} (h : l[i]? = some x) : (l.take (i + 1)).foldl (fun a s => a ||| f s) 0 = (l.take i).foldl (fun a s => a ||| f s) 0 ||| f x := by
  rw [List.take_add_one, h, List.foldl_append]
  rfl
theorem ok_lot_behind (T : Tx K mg) : FnG P w K mg base CX0 2 T.a_lot_behind T.d_lot_behind ["lot", "behind"] spLotBehind := by
  have G_stands_of := ok_stands_of (P := P) (w := w) (base := base) T
  refine bodyG0 T.F_lot_behind sc_lot_behind (fun vs H Q E h => ?_) (fun cdv A outer s H vs Q E gd hr h => ?_)
  · obtain ⟨m, c, t, rfl, _⟩ := h; rfl
  · obtain ⟨m, c, t, rfl, hc, sm, hm, q⟩ := h
    refine ⟨_, (pss_cons (ps_set (i := 2) sc_lot_behind.nd rfl (Or.inl rfl) pe_int)
      (pss_cons (ps_for PassesOwn.never rfl (pi_list (pe_g G_stands_of gd (hr.mono (by decide)) (by rfl) T.g_stands_of T.F_stands_of.kp T.b_stands_of .nil pass0 (pa_cons (pv 0) pa_nil))) (pg_name (i := 3) sc_lot_behind.nd rfl (Or.inl rfl)) (pss_one (ps_aug (i := 2) sc_lot_behind.nd rfl (Or.inl rfl) (pe_ix (ix_listK (K := K) rfl) (pv 1) (pv 3) (fun _ _ => rfl)) iop_or)))
      (pss_one (ps_ret (pv 2))))), ?_⟩
    have z6 := sm.few
    refine ⟨_, rfl, m, t.steps.length, rfl, hm, by omega, fun p H1 s1 np hp => ?_⟩
    have sq : SqL K H1 p (natV (bitsN t.steps.length m)) := .inl (.inl hp)
    have sc : SqL K H1 c (natV (t.steps.map maskN)) := .inl (.inl (s1 _ _ hc))
    refine ⟨p, rfl, ⟨_, sq⟩, ?_⟩
    refine for_list (K := K) (a := p) (xs := natV (bitsN t.steps.length m)) (fun i σ H' => H' = H1 ∧ ∃ z : Option V, σ = [some (.int m), some (.ref c), some (.int (((bitsN t.steps.length m).take i).foldl (fun a s => a ||| maskN (t.steps.getD s [])) 0 : Nat)), z]) ⟨rfl, none, rfl⟩ (fun i σ H' _ e => by rw [e.1]; exact sq) ?_ ?_
    · rintro i x σ H' hi ⟨rfl, z, rfl⟩
      obtain ⟨b, hb, rfl⟩ := nat_get hi
      obtain ⟨b1, b2⟩ := mem_bits.mp (List.mem_of_getElem? hb)
      refine ⟨_, rfl, _, rfl, _, rfl, c, _, (b : Int), _, rfl, rfl, sc, atI_nat (j := b) (v := V.int ((maskN (t.steps.getD b []) : Nat) : Int)) ?_, _, _, rfl, rfl, rfl, some (.int (b : Int)), ?_⟩
      · rw [List.getElem?_map, List.getElem?_map, List.getD_eq_getElem?_getD, List.getElem?_eq_getElem b1]
        rfl
      · show [some (V.int m), some (V.ref c), some (V.int (Builtin.bitOr ((((bitsN t.steps.length m).take i).foldl (fun a s => a ||| maskN (t.steps.getD s [])) 0 : Nat) : Int) ((maskN (t.steps.getD b []) : Nat) : Int))), some (V.int (b : Int))] = _
        rw [bor_nat, ← fold_step (f := fun s => maskN (t.steps.getD s [])) hb]
    · rintro σ H' ⟨rfl, z, rfl⟩
      rw [natV_len, List.take_length]
      exact ⟨_, rfl, q _ s1⟩

def spTurns : Sp := fun vs H Q _ => ∃ (b : Addr) (ys : List V) (t : Tb), vs = [.ref b, .int 2000] ∧ StepsAt H b ys t ∧ Sm t ∧ ∀ (a p : Addr) (n k : Nat) (H' : Hp), Orb t n k → Same H H' → H' a = some (.tup [.ref p, .int (k : Int)]) → H' p = some (.lst (natV ((List.range n).map (lotM t)))) → Q (.ref a) H'
theorem len_put (kvs : List (Key × V)) (k : Key) (v : V) : (putK kvs k v).length ≤ kvs.length + 1 := by
  unfold putK
  split
  · rw [List.length_map]; omega
  · rw [List.length_append]; exact Nat.le_refl _
theorem ok_lots_in_turn (T : Tx K mg) : FnG P w K mg base CX0 3 T.a_lots_in_turn T.d_lots_in_turn ["steps", "most"] spTurns := by
  have G_masks_behind := ok_masks_behind (P := P) (w := w) (base := base) T
  have G_lot_behind := ok_lot_behind (P := P) (w := w) (base := base) T
  refine bodyG0 T.F_lots_in_turn sc_lots_in_turn (fun vs H Q E h => ?_) (fun cdv A outer s H vs Q E gd hr h => ?_)
  · obtain ⟨b, ys, t, rfl, _⟩ := h; rfl
  · obtain ⟨b, ys, t, rfl, st, sm, q⟩ := h
    refine ⟨_, (pss_cons (ps_set (i := 2) sc_lots_in_turn.nd rfl (Or.inl rfl) (pe_g G_masks_behind gd (hr.mono (by decide)) (by rfl) T.g_masks_behind T.F_masks_behind.kp T.b_masks_behind .nil pass0 (pa_cons (pv 0) pa_nil)))
      (pss_cons (ps_set (i := 3) sc_lots_in_turn.nd rfl (Or.inl rfl) (pe_lst (pa_cons pe_int pa_nil)))
      (pss_cons (ps_set (i := 4) sc_lots_in_turn.nd rfl (Or.inl rfl) (pe_disp (pps_cons pe_int pe_int pps_nil) (by rfl) (by rfl) (by intro h; cases h) (by decide)))
      (pss_one (ps_while PassesOwn.never (pt_val pe_bl) (pss_cons (ps_set (i := 5) sc_lots_in_turn.nd rfl (Or.inl rfl) (pe_g G_lot_behind gd (hr.mono (by decide)) (by rfl) T.g_lot_behind T.F_lot_behind.kp T.b_lot_behind .nil pass0 (pa_cons (pe_ix (ix_listK (K := K) rfl) (pv 3) (pe_un un_neg pe_int) (fun _ _ => rfl)) (pa_cons (pv 2) pa_nil))))
      (pss_cons (ps_if (pt_cmp (pc_din (hu_of hr) (pv 5) (pv 4)) (by rfl)) (pss_one (ps_ret (pe_tup (pa_cons (pv 3) (pa_cons (pe_dget (hu_of hr) (pv 4) (pv 5) (fun _ _ => rfl)) pa_nil))))) pss_nil)
      (pss_cons (ps_if (pt_cmpR op_eq (pe_callB (call_lenK (K := K) rfl) (by rfl) T.z_len (by decide +kernel) (pa_cons (pv 3) pa_nil)) (pv 1) (nomark _)) (pss_one ps_never) pss_nil)
      (pss_cons (ps_dput (hu_of hr) (pv 4) (pv 5) (pe_callB (call_lenK (K := K) rfl) (by rfl) T.z_len (by decide +kernel) (pa_cons (pv 3) pa_nil)) rfl)
      (pss_one (ps_expr (pe_bm PySem.F.plainAttrs_list PySem.F.slot_list_append PySem.F.type_list_append mt_append (pv 3) (pa_cons (pv 5) pa_nil))))))))))))), ?_⟩
    have le1 : ∀ {n : Nat}, n ≤ 1000 → n ≤ sizeLine := fun h => by rw [sizeLine_eq]; omega
    have p64 := sm.pow
    refine ⟨_, rfl, b, ys, t, rfl, st, sm, fun c H1 s1 nc hc => ?_⟩
    refine ⟨le1 (by show 1 ≤ 1000; decide), fun L hL => ?_⟩
    have sL := same_new' (o := .lst [.int 1]) hL
    have eL : (upd H1 L (.lst [.int 1])) L = some (.lst (natV ((List.range 1).map (lotM t)))) := upd_same
    have hc2 := sL _ _ hc
    have s2 := s1.trans sL
    have nL := s1.free hL
    revert eL hc2 s2
    generalize (upd H1 L (.lst [.int 1])) = H2
    intro eL hc2 s2
    refine fun D hD => ⟨upd_same, [(Sum.inl 1, V.int 0)], rfl, by decide, ?_⟩
    have nD := s2.free hD
    have LD : L ≠ D := ne_of_none eL hD
    have cD : c ≠ D := ne_of_none hc2 hD
    have cL : c ≠ L := ne_of_none hc hL
    have kp : ∀ {x : Addr} {o : HO}, x ≠ D → H2 x = some o → (upd (upd H2 D (.dK [])) D (.dK (mergeK [] [(Sum.inl 1, V.int 0)]))) x = some o := fun {x o} hx h => by rw [upd_ne hx, upd_ne hx]; exact h
    have sD : Same H (upd (upd H2 D (.dK [])) D (.dK (mergeK [] [(Sum.inl 1, V.int 0)]))) := fun x o h => kp (ne_of_none h nD) (s2 _ _ h)
    have eL3 := kp LD eL
    have hc3 := kp cD hc2
    have eD3 : (upd (upd H2 D (.dK [])) D (.dK (mergeK [] [(Sum.inl 1, V.int 0)]))) D = some (.dK (mergeK [] [(Sum.inl 1, V.int 0)])) := upd_same
    revert sD eL3 hc3 eD3
    generalize (upd (upd H2 D (.dK [])) D (.dK (mergeK [] [(Sum.inl 1, V.int 0)]))) = H3
    intro sD eL3 hc3 eD3
    have v0 : ∀ x : Nat, valV (mergeK [] [((Sum.inl 1 : Key), V.int 0)]) (Sum.inl (x : Int)) = if x = 1 then some (V.int 0) else none := fun x => by
      show valV (putK [] (Sum.inl (1 : Int)) (V.int 0)) (Sum.inl (x : Int)) = _
      rw [valV_put]
      by_cases h : x = 1
      · rw [if_pos (by rw [h]; rfl), if_pos h]
      · rw [if_neg (fun z => h (by injection z with z; omega)), if_neg h]
        rfl
    refine ⟨fun m σ H' => ∃ (n : Nat) (kvs : List (Key × V)) (z : Option V), m = 65 - n ∧ σ = [some (.ref b), some (.int 2000), some (.ref c), some (.ref L), some (.ref D), z] ∧ Same H H' ∧ H' c = some (.lst (natV (t.steps.map maskN))) ∧ H' L = some (.lst (natV ((List.range n).map (lotM t)))) ∧ H' D = some (.dK kvs) ∧ 1 ≤ n ∧
      (∀ i j, i < j → j < n → lotM t i ≠ lotM t j) ∧ kvs.length ≤ n ∧ (∀ i, i < n → valV kvs (Sum.inl (lotM t i : Int)) = some (.int (i : Int))) ∧ ∀ x : Nat, (∀ i, i < n → lotM t i ≠ x) → valV kvs (Sum.inl (x : Int)) = none,
      ⟨_, 1, _, none, rfl, rfl, sD, hc3, eL3, eD3, Nat.le_refl _, fun i j h1 h2 => by omega, Nat.le_refl 1, fun i hi => ?_, fun x hx => ?_⟩, ?_⟩
    · rw [show i = 0 by omega]
      exact (v0 1)
    · rw [v0, if_neg (fun z => hx 0 (by decide) (by rw [z]; rfl))]
    clear v0 sD eL3 hc3 eD3 kp eL hc2 s2 sL
    rintro m σ H4 ⟨n, kvs, z, rfl, rfl, s4, hc4, eL4, eD4, n1, dif, fewk, here, gone⟩
    have n64 := orb_few sm.good dif
    obtain ⟨n, rfl⟩ : ∃ n', n = n' + 1 := ⟨n - 1, by omega⟩
    have sqL : SqL K H4 L (natV ((List.range (n + 1)).map (lotM t))) := .inl (.inl eL4)
    have lenL : (natV ((List.range (n + 1)).map (lotM t))).length = n + 1 := by rw [natV_len, List.length_map, List.length_range]
    have last : atI (natV ((List.range (n + 1)).map (lotM t))) (-1) = some (V.int (lotM t n : Int)) := by
      rw [List.range_succ, List.map_append]
      show atI (natV (_ ++ [lotM t n])) (-1) = _
      rw [← natV_snoc']
      exact atI_last _ _
    refine ⟨true, rfl, iteT ⟨fun σ' H' => ∃ (kvs : List (Key × V)) (z : Option V), σ' = [some (.ref b), some (.int 2000), some (.ref c), some (.ref L), some (.ref D), z] ∧ Same H H' ∧ H' c = some (.lst (natV (t.steps.map maskN))) ∧ H' L = some (.lst (natV ((List.range (n + 1 + 1)).map (lotM t)))) ∧ H' D = some (.dK kvs) ∧
      (∀ i j, i < j → j < n + 1 + 1 → lotM t i ≠ lotM t j) ∧ kvs.length ≤ n + 1 + 1 ∧ (∀ i, i < n + 1 + 1 → valV kvs (Sum.inl (lotM t i : Int)) = some (.int (i : Int))) ∧ ∀ x : Nat, (∀ i, i < n + 1 + 1 → lotM t i ≠ x) → valV kvs (Sum.inl (x : Int)) = none, fun σ' H' h => ?_, ?_⟩⟩
    · obtain ⟨kvs, z, h1, h2, h3, h4, h5, h6, h7, h8, h9⟩ := h
      exact ⟨65 - (n + 1 + 1), by omega, n + 1 + 1, kvs, z, rfl, h1, h2, h3, h4, h5, by omega, h6, h7, h8, h9⟩
    refine ⟨_, rfl, _, rfl, L, _, (-1 : Int), _, rfl, rfl, sqL, last, _, rfl, lotM t n, c, t, rfl, hc4, sm, lot_lt sm.good n, fun H5 s5 => ?_⟩
    have s45 := s4.trans s5
    have eL5 := s5 _ _ eL4
    have eD5 := s5 _ _ eD4
    have hc5 := s5 _ _ hc4
    have sqL5 : SqL K H5 L (natV ((List.range (n + 1)).map (lotM t))) := .inl (.inl eL5)
    show _
    refine ⟨_, rfl, _, rfl, D, _, rfl, DGet.k (k := Sum.inl ((lotM t (n + 1) : Nat) : Int)) eD5, _, rfl, ?_⟩
    by_cases hx : ∃ i, i < n + 1 ∧ lotM t i = lotM t (n + 1)
    · obtain ⟨i, hi, he⟩ := hx
      have hv : valV kvs (Sum.inl ((lotM t (n + 1) : Nat) : Int)) = some (V.int (i : Int)) := by rw [← he]; exact here i hi
      rw [hv]
      refine iteT ⟨_, rfl, _, rfl, _, rfl, D, V.int (i : Int), rfl, (by rw [← hv]; exact DGet.k (k := Sum.inl ((lotM t (n + 1) : Nat) : Int)) eD5), le1 (by show 2 ≤ 1000; decide), fun a ha => ?_⟩
      have sa := same_new' (o := .tup [.ref L, .int (i : Int)]) ha
      exact q a L (n + 1) i _ ⟨hi, he.symm, dif⟩ (s45.trans sa) upd_same (sa _ _ eL5)
    · have no : ∀ i, i < n + 1 → lotM t i ≠ lotM t (n + 1) := fun i hi z => hx ⟨i, hi, z⟩
      rw [gone _ no]
      refine iteF ?_
      refine ⟨_, rfl, L, _, rfl, .inl sqL5, _, rfl, rfl, _, rfl, ?_⟩
      rw [vi, lenL, decide_eq_false (show ¬ ((n + 1 : Nat) : Int) = 2000 by omega)]
      refine iteF ?_
      refine ⟨_, rfl, L, _, rfl, .inl sqL5, _, rfl, _, rfl, D, _, rfl, DPut.k (k := Sum.inl ((lotM t (n + 1) : Nat) : Int)) eD5 (small1000 (by omega)), ?_⟩
      rw [lenL]
      have eL6 : (upd H5 D (.dK (putK kvs (Sum.inl ((lotM t (n + 1) : Nat) : Int)) (V.int ((n + 1 : Nat) : Int))))) L = some (.lst (natV ((List.range (n + 1)).map (lotM t)))) := by rw [upd_ne LD]; exact eL5
      refine ⟨_, rfl, .inl ⟨rfl, _, .inl (.inl eL6)⟩, _, rfl, L, _, _, rfl, rfl, eL6, small1000 (by rw [lenL]; omega), _, _, rfl, fun x o h => ?_, ?_, ?_, by rw [upd_ne (Ne.symm LD)]; exact upd_same, fun i j h1 h2 => ?_, ?_, fun i hi => ?_, fun x hx => ?_⟩
      · rw [upd_ne (ne_of_none h nL), upd_ne (ne_of_none h nD)]
        exact s45 _ _ h
      · rw [upd_ne cL, upd_ne cD]
        exact hc5
      · rw [upd_same, natV_snoc', List.range_succ (n := n + 1), List.map_append]
        rfl
      · by_cases hj : j < n + 1
        · exact dif i j h1 hj
        · rw [show j = n + 1 by omega]
          exact no i (by omega)
      · have := len_put kvs (Sum.inl ((lotM t (n + 1) : Nat) : Int)) (V.int ((n + 1 : Nat) : Int))
        omega
      · rw [valV_put]
        by_cases hi2 : i = n + 1
        · rw [hi2, if_pos rfl]
        · rw [if_neg (fun z => no i (by omega) (by injection z with z; omega))]
          exact here i (by omega)
      · rw [valV_put, if_neg (fun z => hx (n + 1) (by omega) (by injection z with z; omega))]
        exact gone x fun i hi => hx i (by omega)

/-- the lots met once at p1, those of the round at p2, all new since H -/
structure LotsAt (H H' : Hp) (t : Tb) (n b : Nat) (a p1 p2 : Addr) (q1 q2 : List Addr) : Prop where
  orb : Orb t n b
  same : Same H H'
  tup : H' a = some (.tup [.ref p1, .ref p2])
  l1 : H' p1 = some (.lst (q1.map V.ref))
  l2 : H' p2 = some (.lst (q2.map V.ref))
  n1 : q1.length = b
  n2 : q2.length = n - b
  newp : H p1 = none
  new : ∀ r ∈ q1 ++ q2, H r = none ∧ LotAt H' r ∧ r ≠ p1 ∧ r ≠ p2
  dat : (q1 ++ q2).map (dN H') = (List.range n).map fun i => bitsN t.steps.length (lotM t i)
  apart : p1 ≠ p2
theorem cutR_from (l : List Addr) (n : Nat) (h : n ≤ l.length) : cutV (l.map V.ref) (some (n : Int)) none = (l.drop n).map V.ref := by
  unfold cutV
  rw [HT.sIx_none, HT.sIx_nat, List.length_map, Nat.min_eq_left h, ← List.map_drop, List.take_of_length_le (by rw [List.length_map, List.length_drop]; omega)]
def spOfTable : Sp := fun vs H Q _ => ∃ (x : V) (t : Tb), vs = [x] ∧ Dt H x t.d ∧ Sm t ∧ ∀ (n b : Nat) (a p1 p2 : Addr) (q1 q2 : List Addr) (H' : Hp), LotsAt H H' t n b a p1 p2 q1 q2 → Q (.ref a) H'
theorem ok_lots_of_table (T : Tx K mg) : FnG P w K mg base CX0 4 T.a_lots_of_table T.d_lots_of_table ["table"] spOfTable := by
  have G_lots_in_turn := ok_lots_in_turn (P := P) (w := w) (base := base) T
  have G_stands_of := ok_stands_of (P := P) (w := w) (base := base) T
  refine bodyG0 T.F_lots_of_table sc_lots_of_table (fun vs H Q E h => ?_) (fun cdv A outer s H vs Q E gd hr h => ?_)
  · obtain ⟨x, t, rfl, _⟩ := h; rfl
  · obtain ⟨x, t, rfl, hd, sm, q⟩ := h
    refine ⟨_, (pss_cons (ps_asg (pe_g G_lots_in_turn gd (hr.mono (by decide)) (by rfl) T.g_lots_in_turn T.F_lots_in_turn.kp T.b_lots_in_turn .nil pass0 (pa_cons (pe_ix (ix_tupK (K := K) rfl) (pv 0) pe_int (fun _ _ => rfl)) (pa_cons (C8.pe_gc (by rfl) T.c_MOST_STANDS) pa_nil))) (pg_tup (by rfl) (pgs_cons (pg_name (i := 1) sc_lots_of_table.nd rfl (Or.inl rfl)) (pgs_cons (pg_name (i := 2) sc_lots_of_table.nd rfl (Or.inl rfl)) pgs_nil))))
      (pss_cons (ps_setLc (i := 3) (own := [("mask", 4)]) (g := gName 4) (tt := tYes) rfl sc_lots_of_table.nd rfl rfl (sw_true rfl rfl rfl (by decide +kernel)) (pi_list (pv 1)) (blkOk_by (N := ["table", "masks", "back", "lots", "mask"]) (sc := defScope s_lots_of_table) (by decide +kernel)) (fun _ _ _ _ _ => (pg_name (i := 4) sc_lots_of_table.nd rfl (Or.inl rfl))) (fun _ _ _ _ _ => pts_nil) (fun _ _ _ _ _ => (pe_g G_stands_of gd (hr.mono (by decide)) (by rfl) T.g_stands_of T.F_stands_of.kp T.b_stands_of .nil pass0 (pa_cons (pv 4) pa_nil))))
      (pss_one (ps_ret (pe_tup (pa_cons (pe_slice (sl_listK (K := K) rfl) (pv 3) po_none (po_some (pv 2))) (pa_cons (pe_slice (sl_listK (K := K) rfl) (pv 3) (po_some (pv 2)) po_none) pa_nil))))))), ?_⟩
    have le1 : ∀ {n : Nat}, n ≤ 1000 → n ≤ sizeLine := fun h => by rw [sizeLine_eq]; omega
    obtain ⟨a, bb, cc, ys, rfl, ha, hb, hyl, hrow, hcc, _⟩ := hd.tab
    have z6 := sm.few
    refine ⟨_, rfl, a, _, 1, _, rfl, rfl, .inl (.inl ha), rfl, bb, ys, t, rfl, ⟨hb, hyl, hrow⟩, sm, fun u M n b H1 orb s1 hu hM => ?_⟩
    refine ⟨u, _, rfl, .inl (.inl hu), rfl, _, _, rfl, _, _, rfl, rfl, ?_⟩
    have n64 := orb.few sm.good
    have p64 := sm.pow
    have lt := orb.lt
    have sqM : SqL K H1 M (natV ((List.range n).map (lotM t))) := .inl (.inl hM)
    refine ⟨_, rfl, M, rfl, ⟨_, sqM⟩, fun D hD => ?_⟩
    refine lc_list (K := K) (a := M) (xs := natV ((List.range n).map (lotM t))) (fun i H' => Same H1 H' ∧ ∃ ps : List Addr, H' D = some (.lst (ps.map V.ref)) ∧ ps.length = i ∧ (∀ r ∈ ps, H r = none ∧ r ≠ D ∧ LotAt H' r) ∧ ps.map (dN H') = (List.range i).map fun i => bitsN t.steps.length (lotM t i)) ⟨same_new' hD, [], upd_same, rfl, (fun r hr => nomatch hr), rfl⟩ (fun i H' _ e => e.1.seq sqM) ?_ ?_
    · rintro i x H2 hi ⟨s2, ps, e2, pl, pk, pe⟩
      obtain ⟨v, hv, rfl⟩ := nat_get hi
      have il : i < n := by have := (List.getElem?_eq_some_iff.mp hv).1; rwa [List.length_map, List.length_range] at this
      rw [List.getElem?_map, List.getElem?_range il] at hv
      cases hv
      refine ⟨rfl, yes_if ?_⟩
      refine ⟨_, rfl, lotM t i, t.steps.length, rfl, lot_lt sm.good i, by omega, fun p H3 s3 np hp => ?_⟩
      have nD : D ≠ p := ne_of_none e2 np
      have kp : ∀ {r : Addr}, r ≠ D → LotAt H3 r → LotAt (upd H3 D (.lst (ps.map V.ref ++ [.ref p]))) r ∧ dN (upd H3 D (.lst (ps.map V.ref ++ [.ref p]))) r = dN H3 r := fun {r} hr hL => by
        have e : (upd H3 D (.lst (ps.map V.ref ++ [.ref p]))) r = some (.lst (natV (dN H3 r))) := by rw [upd_ne hr]; exact hL
        exact ⟨.of e, dN_of e⟩
      refine ⟨_, s3 _ _ e2, by rw [List.length_map, pl]; exact small1000 (by omega), fun g o hg => ?_, ps ++ [p], by rw [upd_same, List.map_append]; rfl, by rw [List.length_append, pl]; rfl, fun r hr => ?_, ?_⟩
      · rw [upd_ne (ne_of_none hg hD)]
        exact s3 _ _ (s2 g o hg)
      · rcases List.mem_append.mp hr with z | z
        · obtain ⟨k1, k2, k3⟩ := pk r z
          exact ⟨k1, k2, (kp k2 (k3.to s3)).1⟩
        · rw [List.mem_singleton.mp z]
          exact ⟨s1.free (s2.free np), nD.symm, (kp nD.symm (.of hp)).1⟩
      · rw [List.range_succ, List.map_append, List.map_append, ← pe]
        congr 1
        · refine List.map_congr_left fun r hr => ?_
          obtain ⟨k1, k2, k3⟩ := pk r hr
          rw [(kp k2 (k3.to s3)).2, dN_same s3 k3]
        · show [dN _ p] = [bitsN t.steps.length (lotM t i)]
          rw [(kp nD.symm (.of hp)).2, dN_of hp]
    · rintro H2 ⟨s2, ps, e2, pl, pk, pe⟩
      rw [natV_len, List.length_map, List.length_range] at pl pe
      dsimp only [gName]
      refine ⟨_, rfl, _, rfl, _, rfl, D, _, rfl, .inl (.inl e2), fun p1 hp1 => ?_⟩
      rw [cutR_to]
      have s3 := same_new' (o := .lst ((ps.take b).map V.ref)) hp1
      have h31 : (upd H2 p1 (.lst ((ps.take b).map V.ref))) p1 = some (.lst ((ps.take b).map V.ref)) := upd_same
      revert s3 h31
      generalize (upd H2 p1 (.lst ((ps.take b).map V.ref))) = H3
      intro s3 h31
      refine ⟨_, rfl, _, rfl, _, rfl, D, _, rfl, .inl (.inl (s3 _ _ e2)), fun p2 hp2 => ?_⟩
      rw [cutR_from _ _ (by omega)]
      have s4 := same_new' (o := .lst ((ps.drop b).map V.ref)) hp2
      have h42 : (upd H3 p2 (.lst ((ps.drop b).map V.ref))) p2 = some (.lst ((ps.drop b).map V.ref)) := upd_same
      revert s4 h42
      generalize (upd H3 p2 (.lst ((ps.drop b).map V.ref))) = H4
      intro s4 h42
      refine ⟨le1 (by show 2 ≤ 1000; decide), fun a5 ha5 => ?_⟩
      have s5 := same_new' (o := .tup [.ref p1, .ref p2]) ha5
      have s25 := s3.trans (s4.trans s5)
      have ee : ps.take b ++ ps.drop b = ps := List.take_append_drop b ps
      refine q n b a5 p1 p2 (ps.take b) (ps.drop b) _ ⟨orb, s1.trans (s2.trans s25), upd_same, s5 _ _ (s4 _ _ h31), s5 _ _ h42, by rw [List.length_take]; omega, by rw [List.length_drop]; omega, s1.free (s2.free hp1), ?_, ?_, ne_of_none h31 hp2⟩
      · rw [ee]
        intro r hr
        obtain ⟨k1, k2, k3⟩ := pk r hr
        exact ⟨k1, k3.to s25, ne_of_none k3 hp1, ne_of_none (k3.to s3) hp2⟩
      · rw [ee, lots_same s25 fun r hr => (pk r hr).2.2, pe]
def spReach : Sp := fun vs H Q _ => ∃ (x : V) (t : Tb), vs = [x] ∧ Dt H x t.d ∧ Nice t.d ∧ Sm t ∧ ∀ (n b : Nat) (a p1 p2 : Addr) (q1 q2 : List Addr) (H' : Hp), LotsAt H H' t n b a p1 p2 q1 q2 → Q (.ref a) H'
theorem LotsAt.from {H H0 H' : Hp} {t : Tb} {n b : Nat} {a p1 p2 : Addr} {q1 q2 : List Addr} (l : LotsAt H0 H' t n b a p1 p2 q1 q2) (e : Same H H0) : LotsAt H H' t n b a p1 p2 q1 q2 :=
  { l with same := e.trans l.same, newp := e.free l.newp, new := fun r hr => ⟨e.free (l.new r hr).1, (l.new r hr).2⟩ }
theorem ok_lots_reached (T : Tx K mg) : FnG P w K mg base CX0 6 T.a_lots_reached T.d_lots_reached ["table"] spReach := by
  have G_check_table := ok_check_table (P := P) (w := w) (base := base) T
  have G_lots_of_table := ok_lots_of_table (P := P) (w := w) (base := base) T
  refine bodyG0 T.F_lots_reached sc_lots_reached (fun vs H Q E h => ?_) (fun cdv A outer s H vs Q E gd hr h => ?_)
  · obtain ⟨x, t, rfl, _⟩ := h; rfl
  · obtain ⟨x, t, rfl, hd, nd, sm, q⟩ := h
    refine ⟨_, (pss_cons (ps_expr (pe_g G_check_table gd (hr.mono (by decide)) (by rfl) T.g_check_table T.F_check_table.kp T.b_check_table .nil pass0 (pa_cons (pv 0) pa_nil)))
      (pss_one (ps_ret (pe_g G_lots_of_table gd (hr.mono (by decide)) (by rfl) T.g_lots_of_table T.F_lots_of_table.kp T.b_lots_of_table .nil pass0 (pa_cons (pv 0) pa_nil))))), ?_⟩
    exact ⟨_, rfl, x, t.d, rfl, hd, nd, good_form sm.good, fun H1 s1 => ⟨_, rfl, x, t, rfl, hd.to s1, sm, fun n b a p1 p2 q1 q2 H' l => q n b a p1 p2 q1 q2 H' (l.from s1)⟩⟩

end

end K43

set_option Elab.async false
set_option linter.all false
set_option maxRecDepth 100000
set_option maxHeartbeats 4000000
namespace K43
open PySem PySem.Spec PyProof.Rows L2 Hw
section
variable {P : Program} {w : World} {K : PySem.W.Frag} {mg : Str → Option Value} {base : Heap}

/-- widths that are handed: a tuple of two lists -/
structure WdOk (H : Hp) (x : V) (A T : List Bool) : Prop where
  dt : Dt H x (wdD A T)
  pos : 0 < T.length
  a : A.length ≤ 1000
  t : T.length ≤ 1000
theorem WdOk.to {H H' : Hp} {x : V} {A T : List Bool} (h : WdOk H x A T) (e : Same H H') : WdOk H' x A T := ⟨h.dt.to e, h.pos, h.a, h.t⟩

/-- a new list of Booleans -/
def newB (l : List Bool) (H : Hp) (Q : VK) : Prop := ∀ (p : Addr) (H' : Hp), Same H H' → H p = none → H' p = some (.lst (blV l)) → Q (.ref p) H'
def spShort : Sp := fun vs H Q _ => ∃ (q : Addr) (T : List Bool), vs = [.ref q] ∧ H q = some (.lst (blV T)) ∧ 0 < T.length ∧ T.length ≤ 1000 ∧ newB (T.take (leastS T)) H Q
theorem ok_shortest_turn (T : Tx K mg) : FnG P w K mg base CX0 1 T.a_shortest_turn T.d_shortest_turn ["turn"] spShort := by
  refine bodyG0 T.F_shortest_turn sc_shortest_turn (fun vs H Q E h => ?_) (fun cdv A outer s H vs Q E gd hr h => ?_)
  · obtain ⟨c, U, rfl, _⟩ := h; rfl
  · obtain ⟨c, U, rfl, hc, t0, t1, q⟩ := h
    refine ⟨_, (pss_cons (ps_set (i := 1) sc_shortest_turn.nd rfl (Or.inl rfl) pe_int)
      (pss_cons (ps_while PassesOwn.never (PW.pt (pw_or (pt_cmpR op_ne (pe_op op_mod (pe_callB (call_lenK (K := K) rfl) (by rfl) T.z_len (by decide +kernel) (pa_cons (pv 0) pa_nil)) (pv 1)) pe_int (nomark _)) (pw_or1 (pt_cmpR (op_neT hr.units) (pe_slice (sl_listK (K := K) rfl) (pv 0) (po_some (pv 1)) po_none) (pe_slice (sl_listK (K := K) rfl) (pv 0) po_none (po_some (pe_un un_neg (pv 1)))) (nomark _))))) (pss_one (ps_aug (i := 1) sc_shortest_turn.nd rfl (Or.inl rfl) pe_int ip_add)))
      (pss_one (ps_ret (pe_slice (sl_listK (K := K) rfl) (pv 0) po_none (po_some (pv 1))))))), ?_⟩
    have lo := least_ok t0
    have hlen : (blV U).length = U.length := List.length_map ..
    refine ⟨fun m σ H' => ∃ s : Nat, m = U.length - s ∧ 1 ≤ s ∧ s ≤ leastS U ∧ σ = [some (.ref c), some (.int (s : Int))] ∧ Same H H', ⟨_, 1, rfl, Nat.le_refl _, lo.pos, rfl, Same.refl H⟩, ?_⟩
    rintro m σ H1 ⟨s, rfl, s1, s2, rfl, e1⟩
    have sc : SqL K H1 c (blV U) := .inl (.inl (e1 _ _ hc))
    have sl := lo.le
    refine ⟨_, rfl, c, _, rfl, .inl sc, _, rfl, _, _, rfl, rfl, (by omega), rfl, _, rfl, ?_⟩
    rw [vi, hlen]
    by_cases hm : (U.length : Int) % (s : Int) = 0
    · rw [decide_eq_true hm]
      refine iteF ⟨_, rfl, _, rfl, _, rfl, c, _, rfl, sc, fun p hp => ?_⟩
      have e2 := e1.trans (same_new' (o := .lst (blV (U.drop s))) hp)
      rw [cut_from U (by omega)]
      refine ⟨_, rfl, _, rfl, _, rfl, _, rfl, c, _, rfl, .inl (.inl (e2 _ _ hc)), fun r hr => ?_⟩
      have e3 := e2.trans (same_new' (o := .lst (blV (U.take (U.length - s)))) hr)
      have np : r ≠ p := fun z => by rw [z, upd_same] at hr; cases hr
      rw [cut_back U (by omega) (by omega)]
      refine ne_bls (l := U.drop s) (m := U.take (U.length - s)) (by rw [upd_ne (Ne.symm np), upd_same]) upd_same ?_
      have hmn : U.length % s = 0 := by omega
      by_cases hs : U.drop s = U.take (U.length - s)
      · rw [decide_eq_true hs]
        have es : s = leastS U := Nat.le_antisymm s2 (Nat.le_of_not_lt fun z => lo.min s (by omega) (by omega) ((per_iff (by omega) (by omega)).mpr ⟨hmn, hs⟩))
        refine ⟨_, rfl, iteF ?_⟩
        refine ⟨_, rfl, _, rfl, _, rfl, c, _, rfl, .inl (.inl (e3 _ _ hc)), fun z hz => ?_⟩
        rw [cut_to]
        rw [← es] at q
        exact q z _ (e3.trans (same_new' hz)) (e3.free hz) upd_same
      · rw [decide_eq_false hs]
        have ns : s ≠ leastS U := fun z => hs ((per_iff (by omega) (by omega)).mp (z ▸ lo.per)).2
        have lt : s < leastS U := by omega
        refine ⟨_, rfl, iteT ⟨fun σ' H' => σ' = [some (.ref c), some (.int ((s : Int) + 1))] ∧ Same H H', fun σ' H' ⟨z1, z2⟩ => ⟨U.length - (s + 1), by omega, s + 1, rfl, by omega, by omega, z1, z2⟩, ?_⟩⟩
        exact ⟨_, rfl, _, _, rfl, rfl, rfl, e3⟩
    · rw [decide_eq_false hm]
      have ns : s ≠ leastS U := fun z => hm (by have := lo.per.1; rw [← z] at this; omega)
      have lt : s < leastS U := by omega
      refine iteT ?_
      refine iteT ⟨fun σ' H' => σ' = [some (.ref c), some (.int ((s : Int) + 1))] ∧ Same H H', fun σ' H' ⟨z1, z2⟩ => ⟨U.length - (s + 1), by omega, s + 1, rfl, by omega, by omega, z1, z2⟩, ?_⟩
      exact ⟨_, rfl, _, _, rfl, rfl, rfl, e1⟩

/-- new widths -/
def newW (p : List Bool × List Bool) (H : Hp) (Q : VK) : Prop := ∀ (a b c : Addr) (H' : Hp), Same H H' → H a = none → H b = none → H c = none → b ≠ c → H' a = some (.tup [.ref b, .ref c]) → H' b = some (.lst (blV p.1)) → H' c = some (.lst (blV p.2)) → Q (.ref a) H'
def spMade : Sp := fun vs H Q _ => ∃ (b c : Addr) (A T : List Bool), vs = [.ref b, .ref c] ∧ H b = some (.lst (blV A)) ∧ H c = some (.lst (blV T)) ∧ 0 < T.length ∧ T.length ≤ 1000 ∧ A.length ≤ 1000 ∧ newW (plainF A T) H Q
theorem ok_made_plain (T : Tx K mg) : FnG P w K mg base CX0 2 T.a_made_plain T.d_made_plain ["ahead", "turn"] spMade := by
  have G_shortest_turn := ok_shortest_turn (P := P) (w := w) (base := base) T
  refine bodyG0 T.F_made_plain sc_made_plain (fun vs H Q E h => ?_) (fun cdv A outer s H vs Q E gd hr h => ?_)
  · obtain ⟨b, c, B, U, rfl, _⟩ := h; rfl
  · obtain ⟨b, c, B, U, rfl, hb, hc, u0, u1, b1, q⟩ := h
    refine ⟨_, (pss_cons (ps_set (i := 1) sc_made_plain.nd rfl (Or.inl rfl) (pe_g G_shortest_turn gd (hr.mono (by decide)) (by rfl) T.g_shortest_turn T.F_shortest_turn.kp T.b_shortest_turn .nil pass0 (pa_cons (pv 1) pa_nil)))
      (pss_cons (ps_set (i := 2) sc_made_plain.nd rfl (Or.inl rfl) (pe_callB (call_lenK (K := K) rfl) (by rfl) T.z_len (by decide +kernel) (pa_cons (pv 1) pa_nil)))
      (pss_cons (ps_set (i := 3) sc_made_plain.nd rfl (Or.inl rfl) pe_int)
      (pss_cons (ps_while PassesOwn.never (PW.pt (pw_and (pt_cmpR op_lt (pv 3) (pe_callB (call_lenK (K := K) rfl) (by rfl) T.z_len (by decide +kernel) (pa_cons (pv 0) pa_nil)) (nomark _)) (pw_and1 (pt_cmpR op_eq (pe_ix (ix_listK (K := K) rfl) (pv 0) (pe_op op_sub (pe_un un_neg pe_int) (pv 3)) (fun _ _ => rfl)) (pe_ix (ix_listK (K := K) rfl) (pv 1) (pe_op op_sub (pe_un un_neg pe_int) (pe_op op_mod (pv 3) (pv 2))) (fun _ _ => rfl)) (nomark _))))) (pss_one (ps_aug (i := 3) sc_made_plain.nd rfl (Or.inl rfl) pe_int ip_add)))
      (pss_cons (ps_set (i := 4) sc_made_plain.nd rfl (Or.inl rfl) (pe_op op_sub (pv 2) (pe_op op_mod (pv 3) (pv 2))))
      (pss_one (ps_ret (pe_tup (pa_cons (pe_slice (sl_listK (K := K) rfl) (pv 0) po_none (po_some (pe_op op_sub (pe_callB (call_lenK (K := K) rfl) (by rfl) T.z_len (by decide +kernel) (pa_cons (pv 0) pa_nil)) (pv 3)))) (pa_cons (pe_op op_cat (pe_slice (sl_listK (K := K) rfl) (pv 1) (po_some (pv 4)) po_none) (pe_slice (sl_listK (K := K) rfl) (pv 1) po_none (po_some (pv 4)))) pa_nil)))))))))), ?_⟩
    refine ⟨_, rfl, c, U, rfl, hc, u0, u1, fun d H1 e1 nd hd => ?_⟩
    have half := half_of (A := B) (least_ok u0)
    have lo := least_ok u0
    have vl : (U.take (leastS U)).length ≤ 1000 := by rw [List.length_take]; omega
    revert half hd vl
    generalize U.take (leastS U) = Z
    intro hd half vl
    have z0 := half.some
    have hb1 := e1 _ _ hb
    have sb : SqL K H1 b (blV B) := .inl (.inl hb1)
    have sd : SqL K H1 d (blV Z) := .inl (.inl hd)
    have lb : (blV B).length = B.length := List.length_map ..
    have lz : (blV Z).length = Z.length := List.length_map ..
    refine ⟨_, rfl, d, _, rfl, .inl sd, ?_⟩
    rw [lz]
    refine ⟨fun m σ H' => H' = H1 ∧ ∃ l : Nat, m = B.length - l ∧ l ≤ B.length ∧ (∀ j, j < l → B.getD (B.length - 1 - j) false = Z.getD (Z.length - 1 - j % Z.length) false) ∧ σ = [some (.ref b), some (.ref d), some (.int (Z.length : Int)), some (.int (l : Int)), none], ⟨_, rfl, 0, rfl, Nat.zero_le _, fun j hj => by omega, rfl⟩, ?_⟩
    rintro m σ H' ⟨rfl, l, rfl, l1, same, rfl⟩
    refine ⟨_, rfl, _, rfl, b, _, rfl, .inl sb, _, _, rfl, rfl, _, rfl, ?_⟩
    rw [lb]
    by_cases hl : (l : Int) < (B.length : Nat)
    · rw [decide_eq_true hl]
      have hl : l < B.length := by omega
      have lm := Nat.mod_lt l z0
      have e1' : (-1 : Int) - (l : Int) % (Z.length : Int) = -1 - ((l % Z.length : Nat) : Int) := by rw [Int.natCast_emod]
      refine iteT ⟨_, rfl, _, rfl, _, rfl, _, _, rfl, rfl, _, _, _, _, rfl, rfl, sb, bl_back hl, ?_⟩
      refine ⟨_, rfl, _, rfl, _, rfl, _, rfl, _, _, rfl, rfl, (by show (0 : Int) < (Z.length : Nat); omega), _, _, rfl, rfl, _, _, _, _, rfl, rfl, sd, (by rw [e1']; exact bl_back lm), ?_⟩
      refine ⟨rfl, _, rfl, ?_⟩
      by_cases he : B.getD (B.length - 1 - l) false = Z.getD (Z.length - 1 - l % Z.length) false
      · have ev : decide (V.bl (B.getD (B.length - 1 - l) false) = V.bl (Z.getD (Z.length - 1 - l % Z.length) false)) = true := decide_eq_true (by rw [he])
        rw [ev]
        refine iteT ⟨fun σ' H2 => σ' = [some (.ref b), some (.ref d), some (.int (Z.length : Int)), some (.int ((l : Int) + 1)), none] ∧ H2 = H', fun σ' H2 ⟨z1, z2⟩ => ⟨B.length - (l + 1), by omega, z2, l + 1, rfl, by omega, fun j hj => ?_, z1⟩, ?_⟩
        · by_cases hj2 : j < l
          · exact same j hj2
          · rw [show j = l by omega]
            exact he
        · exact ⟨_, rfl, _, _, rfl, rfl, rfl, rfl⟩
      · have ev : decide (V.bl (B.getD (B.length - 1 - l) false) = V.bl (Z.getD (Z.length - 1 - l % Z.length) false)) = false := decide_eq_false fun z => he (by injection z)
        rw [ev]
        have stop : l < B.length → B.getD (B.length - 1 - l) false ≠ Z.getD (Z.length - 1 - l % Z.length) false := fun _ => he
        refine iteF ?_
        have lm := Nat.mod_lt l z0
        have eb : (Z.length : Int) - (l : Int) % (Z.length : Int) = ((Z.length - l % Z.length : Nat) : Int) := by
          rw [Int.ofNat_sub (Nat.le_of_lt lm), Int.natCast_emod]
        refine ⟨_, rfl, _, rfl, _, rfl, _, _, rfl, rfl, (by show (0 : Int) < (Z.length : Nat); omega), _, _, rfl, rfl, ?_⟩
        dsimp only [gName]
        rw [eb]
        have pl := moved half l1 same stop
        have ep := plainF_of u0 pl
        rw [ep] at q
        have ec : ((blV B).length : Int) - (l : Int) = ((B.length - l : Nat) : Int) := by rw [lb, Int.ofNat_sub l1]
        refine ⟨_, rfl, _, rfl, b, _, rfl, .inl sb, _, rfl, _, _, rfl, rfl, _, rfl, b, _, rfl, sb, fun p hp => ?_⟩
        rw [ec, cut_to]
        have e2 := same_new' (o := .lst (blV (B.take (B.length - l)))) hp
        have hp2 : (upd H' p (.lst (blV (B.take (B.length - l))))) p = some (.lst (blV (B.take (B.length - l)))) := upd_same
        generalize (upd H' p (.lst (blV (B.take (B.length - l))))) = H2 at e2 hp2
        refine ⟨_, rfl, _, rfl, _, rfl, d, _, rfl, .inl (.inl (e2 _ _ hd)), fun r hr => ?_⟩
        rw [cut_from Z (by omega)]
        have e3 := same_new' (o := .lst (blV (Z.drop (Z.length - l % Z.length)))) hr
        have hr3 : (upd H2 r (.lst (blV (Z.drop (Z.length - l % Z.length))))) r = some (.lst (blV (Z.drop (Z.length - l % Z.length)))) := upd_same
        generalize (upd H2 r (.lst (blV (Z.drop (Z.length - l % Z.length))))) = H3 at e3 hr3
        refine ⟨_, rfl, _, rfl, _, rfl, d, _, rfl, .inl (.inl (e3 _ _ (e2 _ _ hd))), fun t ht => ?_⟩
        rw [cut_to]
        have e4 := same_new' (o := .lst (blV (Z.take (Z.length - l % Z.length)))) ht
        have ht4 : (upd H3 t (.lst (blV (Z.take (Z.length - l % Z.length))))) t = some (.lst (blV (Z.take (Z.length - l % Z.length)))) := upd_same
        generalize (upd H3 t (.lst (blV (Z.take (Z.length - l % Z.length))))) = H4 at e4 ht4
        have len2 : (Z.drop (Z.length - l % Z.length)).length + (Z.take (Z.length - l % Z.length)).length = Z.length := by rw [List.length_drop, List.length_take]; omega
        refine ⟨r, t, _, _, rfl, rfl, e4 _ _ hr3, ht4, by rw [List.length_map, List.length_map, len2, sizeLine_eq]; omega, fun u hu => ?_⟩
        rw [show blV (Z.drop (Z.length - l % Z.length)) ++ blV (Z.take (Z.length - l % Z.length)) = blV (Z.drop (Z.length - l % Z.length) ++ Z.take (Z.length - l % Z.length)) from (List.map_append ..).symm]
        have e5 := same_new' (o := .lst (blV (Z.drop (Z.length - l % Z.length) ++ Z.take (Z.length - l % Z.length)))) hu
        have hu5 : (upd H4 u (.lst (blV (Z.drop (Z.length - l % Z.length) ++ Z.take (Z.length - l % Z.length))))) u = some (.lst (blV (Z.drop (Z.length - l % Z.length) ++ Z.take (Z.length - l % Z.length)))) := upd_same
        generalize (upd H4 u (.lst (blV (Z.drop (Z.length - l % Z.length) ++ Z.take (Z.length - l % Z.length))))) = H5 at e5 hu5
        refine ⟨by rw [sizeLine_eq]; show 2 ≤ _; decide, fun a ha => ?_⟩
        have e6 := same_new' (o := .tup [.ref p, .ref u]) ha
        have e14 := (e1.trans e2).trans (e3.trans e4)
        have hp5 := (e3.trans (e4.trans e5)) _ _ hp2
        exact q a p u _ ((e14.trans e5).trans e6) ((e14.trans e5).free ha) (e1.free hp) (e14.free hu) (fun z => by rw [← z, ((e3.trans e4) _ _ hp2)] at hu; exact nomatch hu) upd_same (e6 _ _ hp5) (e6 _ _ hu5)
    · rw [decide_eq_false hl]
      have stop : l < B.length → B.getD (B.length - 1 - l) false ≠ Z.getD (Z.length - 1 - l % Z.length) false := fun z => absurd (show (l : Int) < (B.length : Nat) by omega) hl
      refine iteF ?_
      refine iteF ?_
      have lm := Nat.mod_lt l z0
      have eb : (Z.length : Int) - (l : Int) % (Z.length : Int) = ((Z.length - l % Z.length : Nat) : Int) := by
        rw [Int.ofNat_sub (Nat.le_of_lt lm), Int.natCast_emod]
      refine ⟨_, rfl, _, rfl, _, rfl, _, _, rfl, rfl, (by show (0 : Int) < (Z.length : Nat); omega), _, _, rfl, rfl, ?_⟩
      dsimp only [gName]
      rw [eb]
      have pl := moved half l1 same stop
      have ep := plainF_of u0 pl
      rw [ep] at q
      have ec : ((blV B).length : Int) - (l : Int) = ((B.length - l : Nat) : Int) := by rw [lb, Int.ofNat_sub l1]
      refine ⟨_, rfl, _, rfl, b, _, rfl, .inl sb, _, rfl, _, _, rfl, rfl, _, rfl, b, _, rfl, sb, fun p hp => ?_⟩
      rw [ec, cut_to]
      have e2 := same_new' (o := .lst (blV (B.take (B.length - l)))) hp
      have hp2 : (upd H' p (.lst (blV (B.take (B.length - l))))) p = some (.lst (blV (B.take (B.length - l)))) := upd_same
      generalize (upd H' p (.lst (blV (B.take (B.length - l))))) = H2 at e2 hp2
      refine ⟨_, rfl, _, rfl, _, rfl, d, _, rfl, .inl (.inl (e2 _ _ hd)), fun r hr => ?_⟩
      rw [cut_from Z (by omega)]
      have e3 := same_new' (o := .lst (blV (Z.drop (Z.length - l % Z.length)))) hr
      have hr3 : (upd H2 r (.lst (blV (Z.drop (Z.length - l % Z.length))))) r = some (.lst (blV (Z.drop (Z.length - l % Z.length)))) := upd_same
      generalize (upd H2 r (.lst (blV (Z.drop (Z.length - l % Z.length))))) = H3 at e3 hr3
      refine ⟨_, rfl, _, rfl, _, rfl, d, _, rfl, .inl (.inl (e3 _ _ (e2 _ _ hd))), fun t ht => ?_⟩
      rw [cut_to]
      have e4 := same_new' (o := .lst (blV (Z.take (Z.length - l % Z.length)))) ht
      have ht4 : (upd H3 t (.lst (blV (Z.take (Z.length - l % Z.length))))) t = some (.lst (blV (Z.take (Z.length - l % Z.length)))) := upd_same
      generalize (upd H3 t (.lst (blV (Z.take (Z.length - l % Z.length))))) = H4 at e4 ht4
      have len2 : (Z.drop (Z.length - l % Z.length)).length + (Z.take (Z.length - l % Z.length)).length = Z.length := by rw [List.length_drop, List.length_take]; omega
      refine ⟨r, t, _, _, rfl, rfl, e4 _ _ hr3, ht4, by rw [List.length_map, List.length_map, len2, sizeLine_eq]; omega, fun u hu => ?_⟩
      rw [show blV (Z.drop (Z.length - l % Z.length)) ++ blV (Z.take (Z.length - l % Z.length)) = blV (Z.drop (Z.length - l % Z.length) ++ Z.take (Z.length - l % Z.length)) from (List.map_append ..).symm]
      have e5 := same_new' (o := .lst (blV (Z.drop (Z.length - l % Z.length) ++ Z.take (Z.length - l % Z.length)))) hu
      have hu5 : (upd H4 u (.lst (blV (Z.drop (Z.length - l % Z.length) ++ Z.take (Z.length - l % Z.length))))) u = some (.lst (blV (Z.drop (Z.length - l % Z.length) ++ Z.take (Z.length - l % Z.length)))) := upd_same
      generalize (upd H4 u (.lst (blV (Z.drop (Z.length - l % Z.length) ++ Z.take (Z.length - l % Z.length))))) = H5 at e5 hu5
      refine ⟨by rw [sizeLine_eq]; show 2 ≤ _; decide, fun a ha => ?_⟩
      have e6 := same_new' (o := .tup [.ref p, .ref u]) ha
      have e14 := (e1.trans e2).trans (e3.trans e4)
      have hp5 := (e3.trans (e4.trans e5)) _ _ hp2
      exact q a p u _ ((e14.trans e5).trans e6) ((e14.trans e5).free ha) (e1.free hp) (e14.free hu) (fun z => by rw [← z, ((e3.trans e4) _ _ hp2)] at hu; exact nomatch hu) upd_same (e6 _ _ hp5) (e6 _ _ hu5)

def spLPlain : Sp := fun vs H Q _ => ∃ (x : V) (A T : List Bool), vs = [x] ∧ WdOk H x A T ∧ ∀ (a : V) (H' : Hp), Same H H' → Dt H' a (wdD (plainF A T).1 (plainF A T).2) → Q a H'
theorem ok_law_plain (T : Tx K mg) : FnG P w K mg base CX0 1 T.a_law_plain T.d_law_plain ["_law_told"] spLPlain := by
  refine bodyG0 T.F_law_plain sc_law_plain (fun vs H Q E h => ?_) (fun cdv A outer s H vs Q E gd hr h => ?_)
  · obtain ⟨x, B, U, rfl, _⟩ := h; rfl
  · obtain ⟨x, B, U, rfl, ok, q⟩ := h
    refine ⟨_, (pss_cons (ps_asg (pe_tup (pa_cons (pe_callTy (call_listK (K := K) rfl) (by rfl) T.z_list (by decide +kernel) (pa_cons (pe_ix (ix_tupK (K := K) rfl) (pv 0) pe_int (fun _ _ => rfl)) pa_nil)) (pa_cons (pe_callTy (call_listK (K := K) rfl) (by rfl) T.z_list (by decide +kernel) (pa_cons (pe_ix (ix_tupK (K := K) rfl) (pv 0) pe_int (fun _ _ => rfl)) pa_nil)) pa_nil))) (pg_tup (by rfl) (pgs_cons (pg_name (i := 1) sc_law_plain.nd rfl (Or.inl rfl)) (pgs_cons (pg_name (i := 2) sc_law_plain.nd rfl (Or.inr rfl)) pgs_nil))))
      (pss_cons (ps_setLc (i := 3) (own := [("_law_size", 5)]) (g := gName 5) rfl sc_law_plain.nd rfl rfl (sw_true rfl rfl rfl (by decide +kernel)) (pi_range2 (by rfl) T.z_range (pa_cons pe_int (pa_cons (pe_op op_add (pe_callB (call_lenK (K := K) rfl) (by rfl) T.z_len (by decide +kernel) (pa_cons (pv 2) pa_nil)) pe_int) pa_nil))) (blkOk_by (N := ["_law_told", "_law_ahead", "_law_turn", "_law_sizes", "_law_step", "_law_size"]) (sc := defScope s_law_plain) (by decide +kernel)) (fun _ _ _ _ _ => (pg_name (i := 5) sc_law_plain.nd rfl (Or.inl rfl))) (fun _ _ _ _ _ => (pts_one (PW.pt (pw_and (pt_cmpR op_eq (pe_op op_mod (pe_callTy call_int1 (by rfl) T.z_int (by decide +kernel) (pa_cons (pe_callB (call_lenK (K := K) rfl) (by rfl) T.z_len (by decide +kernel) (pa_cons (pv 2) pa_nil)) pa_nil)) (pv 5)) pe_int (nomark _)) (pw_and1 (pt_cmpR (op_eqT hr.units) (pv 2) (pe_op op_rep (pe_slice (sl_listK (K := K) rfl) (pv 2) po_none (po_some (pv 5))) (pe_op op_fdivW (pe_callB (call_lenK (K := K) rfl) (by rfl) T.z_len (by decide +kernel) (pa_cons (pv 2) pa_nil)) (pv 5))) (nomark _))))))) (fun _ _ _ _ _ => (pv 5)))
      (pss_cons (ps_set (i := 2) sc_law_plain.nd rfl (Or.inr rfl) (pe_slice (sl_listK (K := K) rfl) (pv 2) po_none (po_some (pe_ix (ix_listK (K := K) rfl) (pv 3) pe_int (fun _ _ => rfl)))))
      (pss_cons (ps_for PassesOwn.never rfl (pi_range1 (by rfl) T.z_range (pa_cons (pe_callB (call_lenK (K := K) rfl) (by rfl) T.z_len (by decide +kernel) (pa_cons (pv 1) pa_nil)) pa_nil)) (pg_name (i := 4) sc_law_plain.nd rfl (Or.inl rfl)) (pss_cons (ps_if (pt_cmpR op_eq (pe_ix (ix_listK (K := K) rfl) (pv 1) (pe_op op_sub (pe_callB (call_lenK (K := K) rfl) (by rfl) T.z_len (by decide +kernel) (pa_cons (pv 1) pa_nil)) pe_int) (fun _ _ => rfl)) (pe_ix (ix_listK (K := K) rfl) (pv 2) (pe_op op_sub (pe_callB (call_lenK (K := K) rfl) (by rfl) T.z_len (by decide +kernel) (pa_cons (pv 2) pa_nil)) pe_int) (fun _ _ => rfl)) (nomark _)) (pss_one (ps_asg (pe_tup (pa_cons (pe_slice (sl_listK (K := K) rfl) (pv 1) po_none (po_some (pe_op op_sub (pe_callB (call_lenK (K := K) rfl) (by rfl) T.z_len (by decide +kernel) (pa_cons (pv 1) pa_nil)) pe_int))) (pa_cons (pe_op op_cat (pe_slice (sl_listK (K := K) rfl) (pv 2) (po_some (pe_op op_sub (pe_callB (call_lenK (K := K) rfl) (by rfl) T.z_len (by decide +kernel) (pa_cons (pv 2) pa_nil)) pe_int)) po_none) (pe_slice (sl_listK (K := K) rfl) (pv 2) po_none (po_some (pe_op op_sub (pe_callB (call_lenK (K := K) rfl) (by rfl) T.z_len (by decide +kernel) (pa_cons (pv 2) pa_nil)) pe_int)))) pa_nil))) (pg_tup (by rfl) (pgs_cons (pg_name (i := 1) sc_law_plain.nd rfl (Or.inl rfl)) (pgs_cons (pg_name (i := 2) sc_law_plain.nd rfl (Or.inr rfl)) pgs_nil))))) pss_nil)
      (pss_one (ps_if (pt_cmpR (op_eqT hr.units) (pv 1) (pe_lst pa_nil) (nomark _)) (pss_one ps_break) pss_nil))))
      (pss_one (ps_ret (pe_tup (pa_cons (pv 1) (pa_cons (pv 2) pa_nil))))))))), ?_⟩
    obtain ⟨a, b, c, rfl, ha, hb, hc⟩ := ok.dt.wd
    have u0 := ok.pos
    have u1 := ok.t
    have b1 := ok.a
    have lo := least_ok u0
    have lu : (blV U).length = U.length := List.length_map ..
    refine ⟨_, rfl, a, _, 0, _, rfl, rfl, .inl (.inl ha), rfl, b, _, rfl, .inl (.inl (.inl hb)), fun p hp => ?_⟩
    have e2 := same_new' (o := .lst (blV B)) hp
    have hp2 : (upd H p (.lst (blV B))) p = some (.lst (blV B)) := upd_same
    generalize (upd H p (.lst (blV B))) = H2 at e2 hp2
    refine ⟨_, rfl, a, _, 1, _, rfl, rfl, .inl (.inl (e2 _ _ ha)), rfl, c, _, rfl, .inl (.inl (.inl (e2 _ _ hc))), fun r hr => ?_⟩
    have e3 := same_new' (o := .lst (blV U)) hr
    have hr3 : (upd H2 r (.lst (blV U))) r = some (.lst (blV U)) := upd_same
    generalize (upd H2 r (.lst (blV U))) = H3 at e3 hr3
    refine ⟨by rw [sizeLine_eq]; show 2 ≤ _; decide, fun t ht => ?_⟩
    have e4 := same_new' (o := .tup [.ref p, .ref r]) ht
    have ht4 : (upd H3 t (.tup [.ref p, .ref r])) t = some (.tup [.ref p, .ref r]) := upd_same
    generalize (upd H3 t (.tup [.ref p, .ref r])) = H4 at e4 ht4
    refine ⟨t, _, rfl, .inl (.inl ht4), rfl, _, _, rfl, _, _, rfl, rfl, ?_⟩
    have s04 := (e2.trans e3).trans e4
    have hp4 := (e3.trans e4) _ _ hp2
    have hr4 := e4 _ _ hr3
    -- the sizes
    have sr : SqL K H4 r (blV U) := .inl (.inl hr4)
    have en : ((blV U).length : Int) + 1 - 1 = (U.length : Int) := by rw [lu]; omega
    refine ⟨_, rfl, r, _, rfl, .inl sr, _, _, rfl, rfl, _, _, rfl, (by rw [lu]; omega), fun D hD => ?_⟩
    rw [en, Int.toNat_natCast]
    refine lc_range (lo := 1) (n := U.length) (fun i H' => Same H4 H' ∧ H' D = some (.lst (natV ((List.range' 1 i).filter fun s => decide (Per U s))))) ⟨same_new' hD, upd_same⟩ ?_ ?_
    · rintro i H' hi ⟨s1, e1⟩
      have es : (1 : Int) + (i : Int) = ((i + 1 : Nat) : Int) := by omega
      rw [es]
      have sr1 : SqL K H' r (blV U) := .inl (.inl (s1 _ _ hr4))
      have skip : ¬ Per U (i + 1) → Same H4 H' ∧ H' D = some (.lst (natV ((List.range' 1 (i + 1)).filter fun s => decide (Per U s)))) := fun z => by
        refine ⟨s1, ?_⟩
        rw [range'_snoc, List.filter_append, List.filter_cons_of_neg (by simpa using z), List.filter_nil, List.append_nil]
        exact e1
      refine ⟨rfl, _, rfl, r, _, rfl, .inl sr1, .inl ⟨_, rfl, _, rfl, _, _, rfl, rfl, (by show (0 : Int) < ((i + 1 : Nat) : Int); omega), rfl, _, rfl, ?_⟩⟩
      rw [vi, lu]
      by_cases hm : (U.length : Int) % ((i + 1 : Nat) : Int) = 0
      · rw [decide_eq_true hm]
        have hmn : U.length % (i + 1) = 0 := by omega
        refine iteT ⟨_, rfl, _, rfl, _, rfl, _, rfl, r, _, rfl, sr1, fun z hz => ?_⟩
        rw [cut_to]
        have e5 := same_new' (o := .lst (blV (U.take (i + 1)))) hz
        have hz5 : (upd H' z (.lst (blV (U.take (i + 1))))) z = some (.lst (blV (U.take (i + 1)))) := upd_same
        generalize (upd H' z (.lst (blV (U.take (i + 1))))) = H5 at e5 hz5
        have r5 := e5 _ _ (s1 _ _ hr4)
        refine ⟨_, rfl, r, _, rfl, .inl (.inl (.inl r5)), _, rfl, _, _, rfl, rfl, ?_, ?_⟩
        · exact wide_div (b := 20) (by omega) (by omega) (by decide) (by decide)
        have eq : ((blV U).length : Int) / ((i + 1 : Nat) : Int) = ((U.length / (i + 1) : Nat) : Int) := by rw [lu, Int.natCast_ediv]
        have eqn : (((U.length / (i + 1) : Nat) : Int)).toNat = U.length / (i + 1) := Int.toNat_natCast _
        have ql : U.length / (i + 1) ≤ U.length := Nat.div_le_self _ _
        have tl : (blV (U.take (i + 1))).length = i + 1 := by rw [List.length_map, List.length_take]; omega
        have qm : (i + 1) * (U.length / (i + 1)) ≤ U.length := Nat.mul_div_le _ _
        dsimp only
        rw [eq]
        refine ⟨z, _, _, rfl, rfl, hz5, by omega, by omega, by rw [tl, eqn, sizeLine_eq]; omega, fun y hy => ?_⟩
        rw [eqn, blV_rep]
        have e6 := same_new' (o := .lst (blV (List.replicate (U.length / (i + 1)) (U.take (i + 1))).flatten)) hy
        have hy6 : (upd H5 y (.lst (blV (List.replicate (U.length / (i + 1)) (U.take (i + 1))).flatten))) y = some (.lst (blV (List.replicate (U.length / (i + 1)) (U.take (i + 1))).flatten)) := upd_same
        generalize (upd H5 y (.lst (blV (List.replicate (U.length / (i + 1)) (U.take (i + 1))).flatten))) = H6 at e6 hy6
        refine eq_bls (e6 _ _ r5) hy6 ?_
        have pi := per_iff_rep (T := U) (s := i + 1) (by omega) (by omega) hmn
        have e16 := e5.trans e6
        refine ⟨_, rfl, ?_⟩
        by_cases hp2 : Per U (i + 1)
        · rw [decide_eq_true (pi.mp hp2)]
          have fl : (List.range' 1 (i + 1)).filter (fun s => decide (Per U s)) = (List.range' 1 i).filter (fun s => decide (Per U s)) ++ [i + 1] := by
            rw [range'_snoc, List.filter_append, List.filter_cons_of_pos (by simpa using hp2), List.filter_nil]
          refine iteT ⟨_, rfl, _, e16 _ _ e1, ?_, fun g o hg => ?_, ?_⟩
          · have := List.length_filter_le (fun s => decide (Per U s)) (List.range' 1 i)
            rw [List.length_range'] at this
            rw [List.length_map, sizeLine_eq]; omega
          · rw [upd_ne (ne_of_none hg hD)]
            exact (s1.trans e16) g o hg
          · rw [upd_same, fl]
            show _ = some (HO.lst (List.map _ _))
            rw [List.map_append]
            rfl
        · rw [decide_eq_false fun z => hp2 (pi.mpr z)]
          obtain ⟨k1, k2⟩ := skip hp2
          exact iteF ⟨k1.trans e16, e16 _ _ k2⟩
      · rw [decide_eq_false hm]
        exact iteF (skip fun z => hm (by have := z.1; omega))
    rintro H5 ⟨s5, e5⟩
    have first : (natV ((List.range' 1 U.length).filter fun s => decide (Per U s)))[0]? = some (V.int (leastS U : Nat)) := nat_at (least_first u0)
    dsimp only [gName]
    have r5 := s5 _ _ hr4
    refine ⟨_, rfl, _, rfl, D, _, 0, _, rfl, rfl, .inl (.inl e5), atI_nat (j := 0) first, _, rfl, r, _, rfl, .inl (.inl r5), fun z hz => ?_⟩
    rw [cut_to]
    have e6 := same_new' (o := .lst (blV (U.take (leastS U)))) hz
    have hz6 : (upd H5 z (.lst (blV (U.take (leastS U))))) z = some (.lst (blV (U.take (leastS U)))) := upd_same
    generalize (upd H5 z (.lst (blV (U.take (leastS U))))) = H6 at e6 hz6
    have s06 := (s04.trans s5).trans e6
    have p6 := (s5.trans e6) _ _ hp4
    have lb : (blV B).length = B.length := List.length_map ..
    refine ⟨_, rfl, p, _, rfl, .inl (.inl (.inl p6)), _, rfl, by rw [lb]; omega, by rw [lb]; omega, ?_⟩
    rw [lb, Int.toNat_natCast]
    have fin : ∀ (u v : Addr) (y4 y5 : Option V) (H' : Hp), Same H H' → H' u = some (.lst (blV (plainF B U).1)) → H' v = some (.lst (blV (plainF B U).2)) →
        tRet (tTup (tCons (tVar 1) (tCons (tVar 2) tNil))) { nx := fun _ H' => Q .non H', rt := Q } [some (.ref a), some (.ref u), some (.ref v), some (.ref D), y4, y5] H' := fun u v y4 y5 H' e0 hu hv => by
      refine ⟨_, rfl, _, rfl, by rw [sizeLine_eq]; show 2 ≤ _; decide, fun t ht => ?_⟩
      have e7 := same_new' (o := .tup [.ref u, .ref v]) ht
      exact q _ _ (e0.trans e7) (.wd_of upd_same (e7 _ _ hu) (e7 _ _ hv))
    refine for_range (n := B.length) (fun i σ H' => Same H H' ∧ ∃ (u v : Addr) (y4 y5 : Option V), H' u = some (.lst (blV (stepsW i (B, U.take (leastS U))).1)) ∧ H' v = some (.lst (blV (stepsW i (B, U.take (leastS U))).2)) ∧
      σ = [some (.ref a), some (.ref u), some (.ref v), some (.ref D), y4, y5] ∧ (i < B.length → 0 < (stepsW i (B, U.take (leastS U))).1.length)) ⟨s06, p, z, _, _, p6, hz6, rfl, fun h => h⟩ ?_ ?_
    · rintro i σ H7 hi ⟨s7, u, v, y4, y5, hu, hv, rfl, some_⟩
      have some_ := some_ hi
      have small := stepsW_len i (B, U.take (leastS U))
      have last := stepsW_last i (B, U.take (leastS U))
      have halfS : Half (itemW B U) (stepsW i (B, U.take (leastS U))).1 (stepsW i (B, U.take (leastS U))).2 := Half.steps i (half_of (A := B) lo)
      have stop : (stepsW (i + 1) (B, U.take (leastS U))).1 = [] → plainF B U = stepsW (i + 1) (B, U.take (leastS U)) := fun e => by
        show stepsW B.length _ = _
        rw [show B.length = (i + 1) + (B.length - (i + 1)) by omega, stepsW_add, stepsW_nil _ _ e]
      have small2 : (U.take (leastS U)).length ≤ 1000 := by rw [List.length_take]; omega
      rw [last] at stop ⊢
      revert hu hv some_ small stop halfS
      generalize stepsW i (B, U.take (leastS U)) = W
      obtain ⟨C, Z⟩ := W
      intro hu hv some_ small halfS stop
      have hu : H7 u = some (.lst (blV C)) := hu
      have hv : H7 v = some (.lst (blV Z)) := hv
      have some_ : 0 < C.length := some_
      have z0 : 0 < Z.length := halfS.some
      have small : C.length ≤ B.length ∧ Z.length = (U.take (leastS U)).length := small
      have sC : SqL K H7 u (blV C) := .inl (.inl hu)
      have sZ : SqL K H7 v (blV Z) := .inl (.inl hv)
      have lC : (blV C).length = C.length := List.length_map ..
      have lZ : (blV Z).length = Z.length := List.length_map ..
      have eC : ((blV C).length : Int) - 1 = ((C.length - 1 : Nat) : Int) := by rw [lC]; omega
      have eZ : ((blV Z).length : Int) - 1 = ((Z.length - 1 : Nat) : Int) := by rw [lZ]; omega
      -- behind the step
      refine ⟨_, rfl, _, rfl, u, _, rfl, .inl sC, _, _, rfl, rfl, _, _, _, _, rfl, rfl, sC, (by rw [eC]; exact atI_nat (bl_at (by omega))), _, rfl, _, rfl, v, _, rfl, .inl sZ, _, _, rfl, rfl, _, _, _, _, rfl, rfl, sZ, (by rw [eZ]; exact atI_nat (bl_at (by omega))), rfl, _, rfl, ?_⟩
      by_cases heq : C.getD (C.length - 1) false = Z.getD (Z.length - 1) false
      · have ev : decide (V.bl (C.getD (C.length - 1) false) = V.bl (Z.getD (Z.length - 1) false)) = true := decide_eq_true (by rw [heq])
        rw [ev]
        have eW : stepW (C, Z) = (C.take (C.length - 1), Z.drop (Z.length - 1) ++ Z.take (Z.length - 1)) := by
          unfold stepW
          rw [if_neg (show ¬ (C, Z).1.length = 0 by show ¬ C.length = 0; omega), if_pos heq]
        refine iteT ⟨_, rfl, _, rfl, u, _, rfl, .inl sC, _, _, rfl, rfl, _, rfl, u, _, rfl, sC, fun p1 hp1 => ?_⟩
        rw [eC, cut_to]
        have f1 := same_new' (o := .lst (blV (C.take (C.length - 1)))) hp1
        have g1 : (upd H7 p1 (.lst (blV (C.take (C.length - 1))))) p1 = some (.lst (blV (C.take (C.length - 1)))) := upd_same
        generalize (upd H7 p1 (.lst (blV (C.take (C.length - 1))))) = J1 at f1 g1
        refine ⟨_, rfl, _, rfl, v, _, rfl, .inl (.inl (.inl (f1 _ _ hv))), _, _, rfl, rfl, _, rfl, v, _, rfl, .inl (.inl (f1 _ _ hv)), fun p2 hp2 => ?_⟩
        rw [eZ, cut_from Z (by omega)]
        have f2 := same_new' (o := .lst (blV (Z.drop (Z.length - 1)))) hp2
        have g2 : (upd J1 p2 (.lst (blV (Z.drop (Z.length - 1))))) p2 = some (.lst (blV (Z.drop (Z.length - 1)))) := upd_same
        generalize (upd J1 p2 (.lst (blV (Z.drop (Z.length - 1))))) = J2 at f2 g2
        have hv2 := f2 _ _ (f1 _ _ hv)
        refine ⟨_, rfl, _, rfl, v, _, rfl, .inl (.inl (.inl hv2)), _, _, rfl, rfl, _, rfl, v, _, rfl, .inl (.inl hv2), fun p3 hp3 => ?_⟩
        rw [eZ, cut_to]
        have f3 := same_new' (o := .lst (blV (Z.take (Z.length - 1)))) hp3
        have g3 : (upd J2 p3 (.lst (blV (Z.take (Z.length - 1))))) p3 = some (.lst (blV (Z.take (Z.length - 1)))) := upd_same
        generalize (upd J2 p3 (.lst (blV (Z.take (Z.length - 1))))) = J3 at f3 g3
        refine ⟨p2, p3, _, _, rfl, rfl, f3 _ _ g2, g3, by rw [List.length_map, List.length_map, List.length_drop, List.length_take, sizeLine_eq]; omega, fun p4 hp4 => ?_⟩
        rw [show blV (Z.drop (Z.length - 1)) ++ blV (Z.take (Z.length - 1)) = blV (Z.drop (Z.length - 1) ++ Z.take (Z.length - 1)) from (List.map_append ..).symm]
        have f4 := same_new' (o := .lst (blV (Z.drop (Z.length - 1) ++ Z.take (Z.length - 1)))) hp4
        have g4 : (upd J3 p4 (.lst (blV (Z.drop (Z.length - 1) ++ Z.take (Z.length - 1))))) p4 = some (.lst (blV (Z.drop (Z.length - 1) ++ Z.take (Z.length - 1)))) := upd_same
        generalize (upd J3 p4 (.lst (blV (Z.drop (Z.length - 1) ++ Z.take (Z.length - 1))))) = J4 at f4 g4
        refine ⟨by rw [sizeLine_eq]; show 2 ≤ _; decide, fun p5 hp5 => ?_⟩
        have f5 := same_new' (o := .tup [.ref p1, .ref p4]) hp5
        have g5 : (upd J4 p5 (.tup [.ref p1, .ref p4])) p5 = some (.tup [.ref p1, .ref p4]) := upd_same
        generalize (upd J4 p5 (.tup [.ref p1, .ref p4])) = J5 at f5 g5
        refine ⟨p5, _, rfl, .inl (.inl g5), rfl, _, _, rfl, _, _, rfl, rfl, ?_⟩
        have s8 := s7.trans ((f1.trans f2).trans ((f3.trans f4).trans f5))
        have hu8 := ((f2.trans f3).trans (f4.trans f5)) _ _ g1
        have hv8 := f5 _ _ g4
        refine ⟨_, rfl, Nat.zero_le _, fun e he => ?_⟩
        have e9 := same_new' (o := .lst []) he
        refine eq_bls (l := (C.take (C.length - 1))) (m := []) (e9 _ _ hu8) upd_same ⟨_, rfl, ?_⟩
        by_cases hn : (C.take (C.length - 1)) = []
        · rw [decide_eq_true hn]
          have sp := stop (by rw [eW]; exact hn)
          rw [eW] at sp
          exact iteT (fin _ _ _ _ _ (s8.trans e9) (by rw [sp]; exact e9 _ _ hu8) (by rw [sp]; exact e9 _ _ hv8))
        · rw [decide_eq_false hn]
          exact iteF ⟨s8.trans e9, _, _, _, _, (by rw [eW]; exact e9 _ _ hu8), (by rw [eW]; exact e9 _ _ hv8), rfl, fun _ => by rw [eW]; exact List.length_pos_iff.mpr hn⟩
      · have ev : decide (V.bl (C.getD (C.length - 1) false) = V.bl (Z.getD (Z.length - 1) false)) = false := decide_eq_false fun z => heq (by injection z)
        rw [ev]
        have eW : stepW (C, Z) = (C, Z) := stepW_done (p := (C, Z)) fun _ => heq
        have s8 := s7
        have hu8 := hu
        have hv8 := hv
        refine iteF ?_
        refine ⟨_, rfl, Nat.zero_le _, fun e he => ?_⟩
        have e9 := same_new' (o := .lst []) he
        refine eq_bls (l := C) (m := []) (e9 _ _ hu8) upd_same ⟨_, rfl, ?_⟩
        by_cases hn : C = []
        · rw [decide_eq_true hn]
          have sp := stop (by rw [eW]; exact hn)
          rw [eW] at sp
          exact iteT (fin _ _ _ _ _ (s8.trans e9) (by rw [sp]; exact e9 _ _ hu8) (by rw [sp]; exact e9 _ _ hv8))
        · rw [decide_eq_false hn]
          exact iteF ⟨s8.trans e9, _, _, _, _, (by rw [eW]; exact e9 _ _ hu8), (by rw [eW]; exact e9 _ _ hv8), rfl, fun _ => by rw [eW]; exact List.length_pos_iff.mpr hn⟩
    · rintro σ H7 ⟨s7, u, v, y4, y5, hu, hv, rfl, _⟩
      exact fin u v y4 y5 H7 s7 hu hv

end

end K43

set_option Elab.async false
set_option linter.all false
set_option maxRecDepth 100000
set_option maxHeartbeats 4000000
namespace K43
open PySem PySem.Spec PyProof.Rows L2 Hw
section
variable {P : Program} {w : World} {K : PySem.W.Frag} {mg : Str → Option Value} {base : Heap}

/-- whether some, or else each, of a lot is an end -/
def metL (t : Tb) (l : List Nat) (e : Bool) : Bool := if e = true then l.any fun s => t.ends.getD s false else l.all fun s => t.ends.getD s false
def lotL (t : Tb) (i : Nat) : List Nat := bitsN t.steps.length (lotM t i)
def metsL (t : Tb) (n : Nat) (e : Bool) : List Bool := (List.range n).map fun i => metL t (lotL t i) e
theorem lotL_lt {t : Tb} {i s : Nat} (h : s ∈ lotL t i) : s < t.steps.length := (mem_bits.mp h).1
theorem ends_at {t : Tb} (g : t.Good) {s : Nat} (h : s < t.steps.length) : (t.ends.map V.bl)[s]? = some (V.bl (t.ends.getD s false)) := by
  have := g.same
  rw [List.getElem?_map, List.getD_eq_getElem?_getD, List.getElem?_eq_getElem (by omega)]
  rfl
def spMet : Sp := fun vs H Q _ => ∃ (x : V) (t : Tb) (r : Addr) (l : List Nat) (e : Bool), vs = [x, .ref r, .bl e] ∧ Dt H x t.d ∧ Sm t ∧ H r = some (.lst (natV l)) ∧ (∀ s ∈ l, s < t.steps.length) ∧ l.length ≤ 100 ∧ ∀ H', Same H H' → Q (.bl (metL t l e)) H'
theorem ok_is_met_lot (T : Tx K mg) : FnG P w K mg base CX0 1 T.a_is_met_lot T.d_is_met_lot ["table", "lot", "some_end"] spMet := by
  refine bodyG0 T.F_is_met_lot sc_is_met_lot (fun vs H Q E h => ?_) (fun cdv A outer s H vs Q E gd hr h => ?_)
  · obtain ⟨x, t, r, l, e, rfl, _⟩ := h; rfl
  · obtain ⟨x, t, r, l, e, rfl, hd, sm, hr2, lt, hl, q⟩ := h
    refine ⟨_, (pss_cons (ps_setLc (i := 3) (own := [("stand", 4)]) (g := gName 4) (tt := tYes) rfl sc_is_met_lot.nd rfl rfl (sw_true rfl rfl rfl (by decide +kernel)) (pi_list (pv 1)) (blkOk_by (N := ["table", "lot", "some_end", "ends", "stand"]) (sc := defScope s_is_met_lot) (by decide +kernel)) (fun _ _ _ _ _ => (pg_name (i := 4) sc_is_met_lot.nd rfl (Or.inl rfl))) (fun _ _ _ _ _ => pts_nil) (fun _ _ _ _ _ => (pe_ix (ix_listK (K := K) rfl) (pe_ix (ix_tupK (K := K) rfl) (pv 0) pe_int (fun _ _ => rfl)) (pv 4) (fun _ _ => rfl))))
      (pss_one (ps_ret (pe_ifExp (pt_val (pv 2)) (pe_callB (cr_anyK (K := K) rfl rfl) (by rfl) T.z_any (by decide +kernel) (pa_cons (pv 3) pa_nil)) (pe_callB (cr_allK (K := K) rfl rfl) (by rfl) T.z_all (by decide +kernel) (pa_cons (pv 3) pa_nil)))))), ?_⟩
    obtain ⟨a, bb, cc, ys, rfl, ha, hb, hyl, hrow, hcc, _⟩ := hd.tab
    have sq : SqL K H r (natV l) := .inl (.inl hr2)
    refine ⟨_, rfl, r, rfl, ⟨_, sq⟩, fun D hD => ?_⟩
    refine lc_list (K := K) (a := r) (xs := natV l) (fun i H' => Same H H' ∧ H' D = some (.lst (((l.take i).map fun s => t.ends.getD s false).map V.bl))) ⟨same_new' hD, upd_same⟩ (fun i H' _ e => e.1.seq sq) ?_ ?_
    · rintro i x H1 hi ⟨s1, e1⟩
      obtain ⟨b, hb2, rfl⟩ := nat_get hi
      have lb := lt b (List.mem_of_getElem? hb2)
      have il := (List.getElem?_eq_some_iff.mp hb2).1
      refine ⟨rfl, yes_if ?_⟩
      refine ⟨_, rfl, a, _, 2, _, rfl, rfl, .inl (.inl (s1 _ _ ha)), rfl, _, rfl, cc, _, (b : Int), _, rfl, rfl, .inl (.inl (s1 _ _ hcc)), atI_nat (ends_at sm.good lb), ?_⟩
      refine ⟨_, e1, by rw [List.length_map, List.length_map, List.length_take]; exact small1000 (by omega), fun g o hg => ?_, ?_⟩
      · rw [upd_ne (ne_of_none hg hD)]
        exact s1 g o hg
      · rw [upd_same, List.take_add_one, hb2, List.map_append, List.map_append]
        rfl
    · rintro H1 ⟨s1, e1⟩
      rw [natV_len, List.take_length] at e1
      dsimp only [gName]
      refine ⟨_, rfl, _, rfl, ?_⟩
      have q := q H1 s1
      unfold metL at q
      cases e with
      | true =>
        rw [if_pos rfl] at q
        refine iteT ⟨_, rfl, D, _, rfl, .inl (.inl e1), ?_⟩
        rw [show ((l.map fun s => t.ends.getD s false).any id) = l.any fun s => t.ends.getD s false by rw [List.any_map]; rfl]
        exact q
      | false =>
        rw [if_neg Bool.false_ne_true] at q
        refine iteF ⟨_, rfl, D, _, rfl, .inl (.inl e1), ?_⟩
        rw [show ((l.map fun s => t.ends.getD s false).all id) = l.all fun s => t.ends.getD s false by rw [List.all_map]; rfl]
        exact q
theorem LotsAt.get {H H' : Hp} {t : Tb} {n b : Nat} {a p1 p2 : Addr} {q1 q2 : List Addr} (l : LotsAt H H' t n b a p1 p2 q1 q2) {i : Nat} {x : V} (hi : ((q1 ++ q2).map V.ref)[i]? = some x) : ∃ r, x = .ref r ∧ i < n ∧ r ∈ q1 ++ q2 ∧ H' r = some (.lst (natV (lotL t i))) := by
  rw [List.getElem?_map] at hi
  obtain ⟨r, hr, rfl⟩ := Option.map_eq_some_iff.mp hi
  have il : i < n := by
    have h1 := (List.getElem?_eq_some_iff.mp hr).1
    have := l.n1
    have := l.n2
    have := l.orb.lt
    rw [List.length_append] at h1
    omega
  refine ⟨r, rfl, il, List.mem_of_getElem? hr, ?_⟩
  have e := congrArg (fun z => z[i]?) l.dat
  simp only [List.getElem?_map, hr, List.getElem?_range il, Option.map_some] at e
  have := (l.new r (List.mem_of_getElem? hr)).2.1
  unfold LotAt at this
  rw [this, Option.some.inj e]
  rfl
theorem LotsAt.len {H H' : Hp} {t : Tb} {n b : Nat} {a p1 p2 : Addr} {q1 q2 : List Addr} (l : LotsAt H H' t n b a p1 p2 q1 q2) : (q1 ++ q2).length = n := by
  have := l.n1
  have := l.n2
  have := l.orb.lt
  rw [List.length_append]
  omega
def widD (t : Tb) (n b : Nat) (e : Bool) : PyData := wdD (plainF ((metsL t n e).take b) ((metsL t n e).drop b)).1 (plainF ((metsL t n e).take b) ((metsL t n e).drop b)).2
theorem mets_len (t : Tb) (n : Nat) (e : Bool) : (metsL t n e).length = n := by unfold metsL; rw [List.length_map, List.length_range]
def spWhere : Sp := fun vs H Q _ => ∃ (x : V) (t : Tb) (e : Bool), vs = [x, .bl e] ∧ Dt H x t.d ∧ Sm t ∧ ∀ (n b : Nat) (v : V) (H' : Hp), Orb t n b → Same H H' → Dt H' v (widD t n b e) → Q v H'
theorem ok_widths_where (T : Tx K mg) : FnG P w K mg base CX0 5 T.a_widths_where T.d_widths_where ["table", "some_end"] spWhere := by
  have G_lots_of_table := ok_lots_of_table (P := P) (w := w) (base := base) T
  have G_is_met_lot := ok_is_met_lot (P := P) (w := w) (base := base) T
  have G_made_plain := ok_made_plain (P := P) (w := w) (base := base) T
  refine bodyG0 T.F_widths_where sc_widths_where (fun vs H Q E h => ?_) (fun cdv A outer s H vs Q E gd hr h => ?_)
  · obtain ⟨x, t, e, rfl, _⟩ := h; rfl
  · obtain ⟨x, t, e, rfl, hd, sm, q⟩ := h
    refine ⟨_, (pss_cons (ps_asg (pe_g G_lots_of_table gd (hr.mono (by decide)) (by rfl) T.g_lots_of_table T.F_lots_of_table.kp T.b_lots_of_table .nil pass0 (pa_cons (pv 0) pa_nil)) (pg_tup (by rfl) (pgs_cons (pg_name (i := 2) sc_widths_where.nd rfl (Or.inl rfl)) (pgs_cons (pg_name (i := 3) sc_widths_where.nd rfl (Or.inl rfl)) pgs_nil))))
      (pss_cons (ps_setLc (i := 4) (own := [("lot", 5)]) (g := gName 5) (tt := tYes) rfl sc_widths_where.nd rfl rfl (sw_true rfl rfl rfl (by decide +kernel)) (pi_list (pe_op op_cat (pv 2) (pv 3))) (blkOk_by (N := ["table", "some_end", "ahead", "turn", "told", "lot"]) (sc := defScope s_widths_where) (by decide +kernel)) (fun _ _ _ _ _ => (pg_name (i := 5) sc_widths_where.nd rfl (Or.inl rfl))) (fun _ _ _ _ _ => pts_nil) (fun _ _ _ _ _ => (pe_g G_is_met_lot gd (hr.mono (by decide)) (by rfl) T.g_is_met_lot T.F_is_met_lot.kp T.b_is_met_lot .nil pass0 (pa_cons (pv 0) (pa_cons (pv 5) (pa_cons (pv 1) pa_nil))))))
      (pss_one (ps_ret (pe_g G_made_plain gd (hr.mono (by decide)) (by rfl) T.g_made_plain T.F_made_plain.kp T.b_made_plain .nil pass0 (pa_cons (pe_slice (sl_listK (K := K) rfl) (pv 4) po_none (po_some (pe_callB (call_lenK (K := K) rfl) (by rfl) T.z_len (by decide +kernel) (pa_cons (pv 2) pa_nil)))) (pa_cons (pe_slice (sl_listK (K := K) rfl) (pv 4) (po_some (pe_callB (call_lenK (K := K) rfl) (by rfl) T.z_len (by decide +kernel) (pa_cons (pv 2) pa_nil))) po_none) pa_nil))))))), ?_⟩
    refine ⟨_, rfl, x, t, rfl, hd, sm, fun n b a p1 p2 q1 q2 H1 l => ?_⟩
    have s1 := l.same
    have n64 := l.orb.few sm.good
    have p64 := sm.pow
    have lt := l.orb.lt
    have ll := l.len
    refine ⟨a, _, rfl, .inl (.inl l.tup), rfl, _, _, rfl, _, _, rfl, rfl, ?_⟩
    refine ⟨_, rfl, _, rfl, p1, p2, _, _, rfl, rfl, l.l1, l.l2, by rw [List.length_map, List.length_map, ← List.length_append, ll, sizeLine_eq]; omega, fun M hM => ?_⟩
    have s2 := same_new' (o := .lst (q1.map V.ref ++ q2.map V.ref)) hM
    have hM2 : (upd H1 M (.lst (q1.map V.ref ++ q2.map V.ref))) M = some (.lst ((q1 ++ q2).map V.ref)) := by rw [upd_same, List.map_append]
    revert s2 hM2
    generalize (upd H1 M (.lst (q1.map V.ref ++ q2.map V.ref))) = H2
    intro s2 hM2
    have sq : SqL K H2 M ((q1 ++ q2).map V.ref) := .inl (.inl hM2)
    refine ⟨M, rfl, ⟨_, sq⟩, fun D hD => ?_⟩
    refine lc_list (K := K) (a := M) (xs := (q1 ++ q2).map V.ref) (fun i H' => Same H2 H' ∧ H' D = some (.lst (blV (metsL t i e)))) ⟨same_new' hD, upd_same⟩ (fun i H' _ e => e.1.seq sq) ?_ ?_
    · rintro i x' H3 hi ⟨s3, e3⟩
      obtain ⟨r, rfl, il, mr, hr1⟩ := l.get hi
      have bl := bits_len t.steps.length (lotM t i)
      have z6 := sm.few
      refine ⟨rfl, yes_if ?_⟩
      refine ⟨_, rfl, _, rfl, _, rfl, x, t, r, lotL t i, e, rfl, hd.to (s1.trans (s2.trans s3)), sm, s3 _ _ (s2 _ _ hr1), fun s hs => lotL_lt hs, (by show (bitsN t.steps.length (lotM t i)).length ≤ 100; omega), fun H4 s4 => ?_⟩
      refine ⟨_, s4 _ _ e3, by rw [List.length_map, mets_len]; exact small1000 (by omega), fun g o hg => ?_, ?_⟩
      · rw [upd_ne (ne_of_none hg hD)]
        exact s4 _ _ (s3 g o hg)
      · rw [upd_same]
        unfold metsL blV
        rw [List.range_succ, List.map_append, List.map_append]
        rfl
    · rintro H3 ⟨s3, e3⟩
      rw [List.length_map, ll] at e3
      dsimp only [gName]
      have ml := mets_len t n e
      have l13 := (s2.trans s3) _ _ l.l1
      refine ⟨_, rfl, _, rfl, p1, _, rfl, .inl (.inl (.inl l13)), _, rfl, D, _, rfl, .inl (.inl e3), fun u hu => ?_⟩
      rw [List.length_map, l.n1, cut_to]
      have s4 := same_new' (o := .lst (blV ((metsL t n e).take b))) hu
      have hu4 : (upd H3 u (.lst (blV ((metsL t n e).take b)))) u = some (.lst (blV ((metsL t n e).take b))) := upd_same
      revert s4 hu4
      generalize (upd H3 u (.lst (blV ((metsL t n e).take b)))) = H4
      intro s4 hu4
      refine ⟨_, rfl, _, rfl, p1, _, rfl, .inl (.inl (.inl (s4 _ _ l13))), _, rfl, D, _, rfl, .inl (.inl (s4 _ _ e3)), fun v hv => ?_⟩
      rw [List.length_map, l.n1, cut_from _ (by omega)]
      have s5 := same_new' (o := .lst (blV ((metsL t n e).drop b))) hv
      refine ⟨u, v, _, _, rfl, s5 _ _ hu4, upd_same, by rw [List.length_drop]; omega, by rw [List.length_drop]; omega, by rw [List.length_take]; omega, fun a' b' c' H6 s6 na nb nc ne h6 h7 h8 => ?_⟩
      exact q n b (.ref a') H6 l.orb (s1.trans (s2.trans (s3.trans (s4.trans (s5.trans s6))))) (.wd_of h6 h7 h8)
def spWid (e : Bool) : Sp := fun vs H Q _ => ∃ (x : V) (t : Tb), vs = [x] ∧ Dt H x t.d ∧ Nice t.d ∧ Sm t ∧ ∀ (n b : Nat) (v : V) (H' : Hp), Orb t n b → Same H H' → Dt H' v (widD t n b e) → Q v H'
theorem ok_taken_widths (T : Tx K mg) : FnG P w K mg base CX0 6 T.a_taken_widths T.d_taken_widths ["table"] (spWid true) := by
  have G_check_table := ok_check_table (P := P) (w := w) (base := base) T
  have G_widths_where := ok_widths_where (P := P) (w := w) (base := base) T
  refine bodyG0 T.F_taken_widths sc_taken_widths (fun vs H Q E h => ?_) (fun cdv A outer s H vs Q E gd hr h => ?_)
  · obtain ⟨x, t, rfl, _⟩ := h; rfl
  · obtain ⟨x, t, rfl, hd, nd, sm, q⟩ := h
    refine ⟨_, (pss_cons (ps_expr (pe_g G_check_table gd (hr.mono (by decide)) (by rfl) T.g_check_table T.F_check_table.kp T.b_check_table .nil pass0 (pa_cons (pv 0) pa_nil)))
      (pss_one (ps_ret (pe_g G_widths_where gd (hr.mono (by decide)) (by rfl) T.g_widths_where T.F_widths_where.kp T.b_widths_where .nil pass0 (pa_cons (pv 0) (pa_cons pe_bl pa_nil)))))), ?_⟩
    exact ⟨_, rfl, x, t.d, rfl, hd, nd, good_form sm.good, fun H1 s1 => ⟨_, rfl, x, t, true, rfl, hd.to s1, sm, fun n b v H' o s2 d => q n b v H' o (s1.trans s2) d⟩⟩
theorem ok_full_widths (T : Tx K mg) : FnG P w K mg base CX0 6 T.a_full_widths T.d_full_widths ["table"] (spWid false) := by
  have G_check_table := ok_check_table (P := P) (w := w) (base := base) T
  have G_widths_where := ok_widths_where (P := P) (w := w) (base := base) T
  refine bodyG0 T.F_full_widths sc_full_widths (fun vs H Q E h => ?_) (fun cdv A outer s H vs Q E gd hr h => ?_)
  · obtain ⟨x, t, rfl, _⟩ := h; rfl
  · obtain ⟨x, t, rfl, hd, nd, sm, q⟩ := h
    refine ⟨_, (pss_cons (ps_expr (pe_g G_check_table gd (hr.mono (by decide)) (by rfl) T.g_check_table T.F_check_table.kp T.b_check_table .nil pass0 (pa_cons (pv 0) pa_nil)))
      (pss_one (ps_ret (pe_g G_widths_where gd (hr.mono (by decide)) (by rfl) T.g_widths_where T.F_widths_where.kp T.b_widths_where .nil pass0 (pa_cons (pv 0) (pa_cons pe_bl pa_nil)))))), ?_⟩
    exact ⟨_, rfl, x, t.d, rfl, hd, nd, good_form sm.good, fun H1 s1 => ⟨_, rfl, x, t, false, rfl, hd.to s1, sm, fun n b v H' o s2 d => q n b v H' o (s1.trans s2) d⟩⟩

def spTable : Sp := fun vs H Q _ => ∃ (a : Addr) (t m : Int), vs = [.ref a] ∧ Gn a t m H ∧ m + 20000 < 4294967296 ∧ ∀ (x : V) (tb : Tb) (H' : Hp), SameX a H H' → Dt (off a H') x tb.d → Sm tb → Q x H'
theorem ok_law_table (T : Tx K mg) : FnG P w K mg base CX0 3 T.a_law_table T.d_law_table ["_law_generator_here"] spTable := by
  have G_law_random := ok_rnd (P := P) (w := w) (base := base) T
  refine bodyG0 T.F_law_table sc_law_table (fun vs H Q E h => ?_) (fun cdv A outer s H vs Q E gd hr h => ?_)
  · obtain ⟨a, t, m, rfl, _⟩ := h; rfl
  · obtain ⟨a, t, m, rfl, g0, hm, q⟩ := h
    refine ⟨_, (pss_cons (ps_asg (pe_tup (pa_cons (pe_g G_law_random gd (hr.mono (by decide)) (by rfl) T.g_law_random T.F_law_random.kp T.b_law_random .nil pass0 (pa_cons (pv 0) (pa_cons pe_int pa_nil))) (pa_cons (pe_op op_add pe_int (pe_g G_law_random gd (hr.mono (by decide)) (by rfl) T.g_law_random T.F_law_random.kp T.b_law_random .nil pass0 (pa_cons (pv 0) (pa_cons pe_int pa_nil)))) pa_nil))) (pg_tup (by rfl) (pgs_cons (pg_name (i := 1) sc_law_table.nd rfl (Or.inr rfl)) (pgs_cons (pg_name (i := 2) sc_law_table.nd rfl (Or.inr rfl)) pgs_nil))))
      (pss_cons (ps_setLc (i := 3) (own := [("_law_stand", 4)]) (g := gName 4) (tt := tYes) rfl sc_law_table.nd rfl rfl (sw_true rfl rfl rfl (by decide +kernel)) (pi_range1 (by rfl) T.z_range (pa_cons (pv 2) pa_nil)) (blkOk_by (N := ["_law_generator_here", "_law_many", "_law_size", "_law_steps", "_law_stand", "_law_letter"]) (sc := defScope s_law_table) (by decide +kernel)) (fun _ _ _ _ _ => (pg_name (i := 4) sc_law_table.nd rfl (Or.inl rfl))) (fun _ _ _ _ _ => pts_nil) (fun _ _ _ _ _ => (pe_lc (own := [("_law_letter", 5)]) (g := gName 5) (tt := tYes) rfl sc_law_table.nd (pi_range1 (by rfl) T.z_range (pa_cons (pe_op op_shlW pe_int (pv 1)) pa_nil)) (blkOk_by (by kernel_rfl)) (fun _ _ _ _ _ => (pg_name (i := 5) sc_law_table.nd rfl (Or.inl rfl))) (fun _ _ _ _ _ => pts_nil) (fun _ _ _ _ _ => (pe_g G_law_random gd (hr.mono (by decide)) (by rfl) T.g_law_random T.F_law_random.kp T.b_law_random .nil pass0 (pa_cons (pv 0) (pa_cons (pv 2) pa_nil)))))))
      (pss_one (ps_ret (pe_tup (pa_cons (pv 1) (pa_cons (pv 3) (pa_cons (pe_lc (own := [("_law_stand", 4)]) (g := gName 4) (tt := tYes) rfl sc_law_table.nd (pi_range1 (by rfl) T.z_range (pa_cons (pv 2) pa_nil)) (blkOk_by (N := ["_law_generator_here", "_law_many", "_law_size", "_law_steps", "_law_stand", "_law_letter"]) (sc := defScope s_law_table) (by decide +kernel)) (fun _ _ _ _ _ => (pg_name (i := 4) sc_law_table.nd rfl (Or.inl rfl))) (fun _ _ _ _ _ => pts_nil) (fun _ _ _ _ _ => (pe_cmpR op_eq (pe_g G_law_random gd (hr.mono (by decide)) (by rfl) T.g_law_random T.F_law_random.kp T.b_law_random .nil pass0 (pa_cons (pv 0) (pa_cons pe_int pa_nil))) pe_int (nomark _)))) pa_nil)))))))), ?_⟩
    have big : ∀ {b : Nat}, b ≤ 10 → b < 2 ^ 2000 := fun {b} hb => by
      have : (10 : Nat) < 2 ^ 2000 := by decide +kernel
      omega
    refine ⟨_, rfl, a, 3, t, m, rfl, g0, by omega, by decide, big (by decide), fun n H0 hn x0 g0 => ?_⟩
    have n4 : (2 : Nat) ^ n ≤ 4 := Nat.pow_le_pow_right (by decide) (show n ≤ 2 by omega)
    have c8 : ((2 ^ n : Nat) : Int) ≤ 4 := Int.ofNat_le.mpr n4
    have c0 : (0 : Int) ≤ ((2 ^ n : Nat) : Int) := Int.natCast_nonneg _
    refine ⟨_, rfl, a, 6, t, _, rfl, g0, by omega, by decide, big (by decide), fun r H1' hr1 x1' g1' => ?_⟩
    obtain ⟨z, hz, z1, z5⟩ : ∃ z : Nat, (1 : Int) + (r : Int) = (z : Int) ∧ 1 ≤ z ∧ z ≤ 6 := ⟨1 + r, by omega, by omega, by omega⟩
    refine ⟨_, _, rfl, rfl, ?_⟩
    dsimp only
    rw [hz]
    refine ⟨by show 2 ≤ sizeLine; rw [sizeLine_eq]; decide, fun pr hpr => ?_⟩
    have spr := same_new' (o := .tup [.int (n : Int), .int (z : Int)]) hpr
    have hpr1 : (upd H1' pr (.tup [.int (n : Int), .int (z : Int)])) pr = some (.tup [.int (n : Int), .int (z : Int)]) := upd_same
    have x1 := x0.trans (x1'.trans (SameX.of spr))
    have g1 := g1'.same spr
    revert hpr1 x1 g1
    generalize (upd H1' pr (.tup [.int (n : Int), .int (z : Int)])) = H1
    intro hpr1 x1 g1
    refine ⟨pr, _, rfl, .inl (.inl hpr1), rfl, _, _, rfl, _, _, rfl, rfl, ?_⟩
    clear hpr1
    refine ⟨_, rfl, z, rfl, by omega, by omega, fun D hD => ?_⟩
    refine lc_range (lo := 0) (n := z) (fun i H' => SameX a H1 H' ∧ Gn a t (m + 200 + 1000 * i) H' ∧ ∃ (vs : List V) (ls : List (List Nat)), H' D = some (.lst vs) ∧ DtAll (off D (off a H')) vs (ls.map fun l => .list (natD l)) ∧ vs.length = i ∧ ls.length = i ∧ ∀ l ∈ ls, l.length = 2 ^ n ∧ ∀ x ∈ l, x < z)
      ⟨SameX.of (same_new' hD), (g1.same (same_new' hD)).up (by omega), [], [], upd_same, .nil, rfl, rfl, fun l hl => nomatch hl⟩ ?_ ?_
    · rintro i H2 hi ⟨x2, g2, vs, ls, e2, dt2, lv, ll, hls⟩
      refine ⟨rfl, yes_if ?_⟩
      refine ⟨_, rfl, _, _, rfl, rfl, (by exact shl_ok (n := 1) (by decide) (by omega)), ?_⟩
      dsimp only
      rw [shl1]
      refine ⟨((2 ^ n : Nat) : Int), rfl, Int.le_trans (by decide) c0, Int.lt_of_le_of_lt c8 (by decide), fun D2 hD2 => ?_⟩
      have nD : D2 ≠ a := g2.ne hD2
      have nDD : D ≠ D2 := ne_of_none e2 hD2
      refine lc_range (lo := 0) (n := 2 ^ n) (fun j H' => SameX a H2 H' ∧ Gn a t (m + 200 + 1000 * i + 100 * j) H' ∧ ∃ l : List Nat, H' D2 = some (.lst (natV l)) ∧ l.length = j ∧ ∀ x ∈ l, x < z)
        ⟨SameX.of (same_new' hD2), (g2.same (same_new' hD2)).up (by omega), [], upd_same, rfl, fun x hx => nomatch hx⟩ ?_ ?_
      · rintro j H3 hj ⟨x3, g3, l, e3, le3, hl3⟩
        refine ⟨rfl, yes_if ?_⟩
        refine ⟨_, rfl, _, rfl, a, z, t, _, rfl, g3, by omega, by omega, big (by omega), fun r2 H4 hr2 x4 g4 => ?_⟩
        refine ⟨natV l, x4 _ _ nD e3, by rw [List.length_map]; exact small1000 (by omega), SameX.new (x3.trans x4) hD2, (g4.keep nD).up (by omega), l ++ [r2], ?_, by rw [List.length_append, le3]; rfl, fun x hx => ?_⟩
        · rw [upd_same, natV_snoc']
        · rcases List.mem_append.mp hx with h | h
          · exact hl3 x h
          · rw [List.mem_singleton.mp h]; exact hr2
      · rintro H3 ⟨x3, g3, l, e3, le3, hl3⟩
        have nDa : D ≠ a := g1.ne hD
        refine ⟨vs, x3 _ _ nDa e2, by rw [lv]; exact small1000 (by omega), SameX.new (x2.trans x3) hD, (g3.keep nDa).up (by omega), vs ++ [.ref D2], ls ++ [l], upd_same, ?_, by rw [List.length_append, lv]; rfl, by rw [List.length_append, ll]; rfl, fun l' hl' => ?_⟩
        · rw [show off D (off a (upd H3 D (.lst (vs ++ [.ref D2])))) = off D (off a H3) by
            funext b
            unfold off
            by_cases h : b = D
            · rw [if_pos h, if_pos h]
            · rw [if_neg h, if_neg h, upd_ne h]]
          rw [List.map_append]
          exact (dt2.to (off_mono x3.off)).app (.one (Dt.nats (off_of nDD.symm (off_of nD e3))))
        · rcases List.mem_append.mp hl' with h | h
          · exact hls l' h
          · rw [List.mem_singleton.mp h]
            exact ⟨le3, hl3⟩
    · rintro H2 ⟨x2, g2, vs, ls, e2, dt2, lv, ll, hls⟩
      have nDa : D ≠ a := g1.ne hD
      dsimp only [gName]
      refine ⟨_, rfl, _, rfl, _, rfl, z, rfl, by omega, by omega, fun D2 hD2 => ?_⟩
      have nD : D2 ≠ a := g2.ne hD2
      refine lc_range (lo := 0) (n := z) (fun j H' => SameX a H2 H' ∧ Gn a t (m + 10100 + 100 * j) H' ∧ ∃ l : List Bool, H' D2 = some (.lst (l.map V.bl)) ∧ l.length = j)
        ⟨SameX.of (same_new' hD2), (g2.same (same_new' hD2)).up (by omega), [], upd_same, rfl⟩ ?_ ?_
      · rintro j H3 hj ⟨x3, g3, l, e3, le3⟩
        refine ⟨rfl, yes_if ?_⟩
        refine ⟨_, rfl, a, 2, t, _, rfl, g3, by omega, by omega, big (by omega), fun r2 H4 hr2 x4 g4 => ?_⟩
        refine ⟨rfl, l.map V.bl, x4 _ _ nD e3, by rw [List.length_map]; exact small1000 (by omega), SameX.new (x3.trans x4) hD2, (g4.keep nD).up (by omega), l ++ [decide (V.int (r2 : Int) = V.int 0)], ?_, by rw [List.length_append, le3]; rfl⟩
        rw [upd_same, List.map_append]
        rfl
      · rintro H3 ⟨x3, g3, l, e3, le3⟩
        refine ⟨by show 3 ≤ sizeLine; rw [sizeLine_eq]; decide, fun p hp => ?_⟩
        have np : p ≠ a := g3.ne hp
        have sn : Same H3 (upd H3 p (.tup [.int (n : Int), .ref D, .ref D2])) := same_new' hp
        have oD : off a (upd H3 p (.tup [.int (n : Int), .ref D, .ref D2])) D = some (.lst vs) := off_of nDa (sn _ _ (x3 _ _ nDa e2))
        have oD2 : off a (upd H3 p (.tup [.int (n : Int), .ref D, .ref D2])) D2 = some (.lst (l.map V.bl)) := off_of nD (sn _ _ e3)
        refine q (.ref p) ⟨n, ls, l⟩ _ ((x1.trans (x2.trans x3)).trans (SameX.of sn)) ?_ ⟨⟨by show n ≤ 6; omega, by show 0 < ls.length; omega, by show l.length = ls.length; omega, fun l' hl' => (hls l' hl').1, fun l' hl' x hx => ?_⟩, by show ls.length ≤ 6; omega, by show n ≤ 2; omega⟩
        · refine .tup (off_of np upd_same) (.cons (.int _) (.cons (.lst oD ?_) (.cons (.lst oD2 (DtAll.bls l)) .nil)))
          exact (dt2.to off_same).to ((x3.trans (SameX.of sn)).off)
        · show x < ls.length
          rw [ll]
          exact (hls l' hl').2 x hx

/-- all stands behind some, each as often as it comes -/
def behindL (t : Tb) (l : List Nat) : List Nat := l.flatMap fun s => t.steps.getD s []
theorem behind_take {t : Tb} {l : List Nat} {i s : Nat} (h : l[i]? = some s) : behindL t (l.take (i + 1)) = behindL t (l.take i) ++ t.steps.getD s [] := by
  unfold behindL
  rw [List.take_add_one, h, List.flatMap_append]
  congr 1
  exact List.append_nil _
theorem behind_len {t : Tb} (sm : Sm t) : ∀ l : List Nat, (behindL t l).length ≤ 4 * l.length
  | [] => Nat.le_refl _
  | s :: l => by
    have ih := behind_len sm l
    have h : (t.steps.getD s []).length ≤ 4 := by
      by_cases hs : s < t.steps.length
      · rw [List.getD_eq_getElem?_getD, List.getElem?_eq_getElem hs]
        exact (sm.row (List.getElem?_eq_getElem hs)).1
      · rw [List.getD_eq_getElem?_getD, List.getElem?_eq_none (by omega)]
        exact Nat.zero_le _
    show (t.steps.getD s [] ++ behindL t l).length ≤ _
    rw [List.length_append, List.length_cons]
    omega
theorem mem_behind {t : Tb} {l : List Nat} {x : Nat} : x ∈ behindL t l ↔ ∃ s ∈ l, x ∈ t.steps.getD s [] := List.mem_flatMap
theorem behind_img {t : Tb} (sm : Sm t) {l : List Nat} {m : Nat} (h : ∀ s, s ∈ l ↔ s < t.steps.length ∧ m.testBit s = true) (x : Nat) : x ∈ behindL t l ↔ x < t.steps.length ∧ (imgM t m).testBit x = true := by
  rw [mem_behind, img_bit]
  constructor
  · rintro ⟨s, hs, hx⟩
    obtain ⟨h1, h2⟩ := (h s).mp hs
    exact ⟨sm.good.row_lt hx, s, h1, h2, hx⟩
  · rintro ⟨_, s, h1, h2, hx⟩
    exact ⟨s, (h s).mpr ⟨h1, h2⟩, hx⟩
/-- sorted(set(..)) of such a list -/
theorem set_bits {k m : Nat} {F : List Nat} {ns : List Int} (h : ns.Pairwise (· < ·)) (e : ∀ x : Int, x ∈ ns ↔ decide (x ∈ intsL F) = true) (hF : ∀ s, s ∈ F ↔ s < k ∧ m.testBit s = true) : ns = intsL (bitsN k m) := by
  refine bits_ints h fun x => ?_
  rw [e, decide_eq_true_eq]
  constructor
  · intro hx
    obtain ⟨s, hs, rfl⟩ := List.mem_map.mp hx
    exact ⟨s, rfl, (hF s).mp hs⟩
  · rintro ⟨s, rfl, hs⟩
    exact List.mem_map.mpr ⟨s, (hF s).mpr hs, rfl⟩
theorem natV_ints (l : List Nat) : natV l = (intsL l).map V.int := by
  unfold intsL
  rw [List.map_map]
  rfl
theorem ints_small {t : Tb} (sm : Sm t) {F : List Nat} (h : ∀ s ∈ F, s < t.steps.length) : ∀ k ∈ intsL F, 0 ≤ k ∧ k < 60 := fun k hk => by
  obtain ⟨s, hs, rfl⟩ := List.mem_map.mp hk
  have := h s hs
  have := sm.few
  omega
def spNext : Sp := fun vs H Q _ => ∃ (x : V) (t : Tb) (r : Addr) (m : Nat), vs = [x, .ref r] ∧ Dt H x t.d ∧ Sm t ∧ H r = some (.lst (natV (bitsN t.steps.length m))) ∧ ∀ (p : Addr) (H' : Hp), Same H H' → H p = none → H' p = some (.lst (natV (bitsN t.steps.length (imgM t m)))) → Q (.ref p) H'
theorem ok_law_next (T : Tx K mg) : FnG P w K mg base CX0 1 T.a_law_next T.d_law_next ["_law_table_told", "_law_lot"] spNext := by
  refine bodyG0 T.F_law_next sc_law_next (fun vs H Q E h => ?_) (fun cdv A outer s H vs Q E gd hr h => ?_)
  · obtain ⟨x, t, r, m, rfl, _⟩ := h; rfl
  · obtain ⟨x, t, r, m, rfl, hd, sm, hr2, q⟩ := h
    refine ⟨_, (pss_cons (ps_set (i := 2) sc_law_next.nd rfl (Or.inl rfl) (pe_lst pa_nil))
      (pss_cons (ps_for PassesOwn.never rfl (pi_list (pv 1)) (pg_name (i := 3) sc_law_next.nd rfl (Or.inl rfl)) (pss_one (ps_set (i := 2) sc_law_next.nd rfl (Or.inl rfl) (pe_op op_cat (pv 2) (pe_ix (ix_listK (K := K) rfl) (pe_ix (ix_tupK (K := K) rfl) (pv 0) pe_int (fun _ _ => rfl)) (pv 3) (fun _ _ => rfl))))))
      (pss_one (ps_ret (pe_callB (cr_sortedSetW (w := w) rfl rfl) (by rfl) T.z_sorted (by decide +kernel) (pa_cons (pe_callTy (cr_setI (K := K) (w := w) rfl rfl rfl) (by rfl) T.z_set (by decide +kernel) (pa_cons (pv 2) pa_nil)) pa_nil)))))), ?_⟩
    obtain ⟨a, bb, cc, ys, rfl, ha, hb, hyl, hrow, hcc, _⟩ := hd.tab
    have bl := bits_len t.steps.length m
    have z6 := sm.few
    refine ⟨Nat.zero_le _, fun D hD => ?_⟩
    have sD := same_new' (o := .lst []) hD
    have eD : (upd H D (.lst [])) D = some (.lst (natV [])) := upd_same
    revert sD eD
    generalize (upd H D (.lst [])) = H1
    intro sD eD
    have sq : SqL K H1 r (natV (bitsN t.steps.length m)) := .inl (.inl (sD _ _ hr2))
    refine ⟨_, rfl, r, rfl, ⟨_, sq⟩, ?_⟩
    refine for_list (K := K) (a := r) (xs := natV (bitsN t.steps.length m)) (fun i σ H' => ∃ (D : Addr) (z3 : Option V), σ = [some (.ref a), some (.ref r), some (.ref D), z3] ∧ Same H1 H' ∧ H' D = some (.lst (natV (behindL t ((bitsN t.steps.length m).take i))))) ⟨D, none, rfl, Same.refl _, eD⟩ (fun i σ H' _ ⟨_, _, _, e, _⟩ => e.seq sq) ?_ ?_
    · rintro i y σ H2 hi ⟨D, z3, rfl, s2, e2⟩
      obtain ⟨b, hb2, rfl⟩ := nat_get hi
      have bm := (mem_bits.mp (List.mem_of_getElem? hb2)).1
      have hl := List.getElem?_eq_getElem bm
      have gl : t.steps.getD b [] = t.steps[b] := by rw [List.getD_eq_getElem?_getD, hl]; rfl
      obtain ⟨u, hu1, hu2⟩ := hrow b _ hl
      have on : ∀ {c : Addr} {o : HO}, H c = some o → H2 c = some o := fun {c o} h => s2 _ _ (sD _ _ h)
      have l1 := behind_len sm ((bitsN t.steps.length m).take i)
      have l2 := (sm.row hl).1
      rw [List.length_take] at l1
      refine ⟨_, rfl, _, rfl, a, _, 1, _, rfl, rfl, .inl (.inl (on ha)), rfl, _, rfl, bb, _, (b : Int), _, rfl, rfl, .inl (.inl (on hb)), atI_nat hu1, D, u, _, _, rfl, rfl, e2, on hu2, by rw [natV_len, natV_len, sizeLine_eq]; omega, fun F hF => ⟨F, _, rfl, s2.trans (same_new' hF), ?_⟩⟩
      rw [upd_same, behind_take hb2, gl]
      unfold natV
      rw [List.map_append]
    · rintro σ H2 ⟨D, z3, rfl, s2, e2⟩
      rw [natV_len, List.take_length] at e2
      have l1 := behind_len sm (bitsN t.steps.length m)
      have hm := behind_img sm (l := bitsN t.steps.length m) (m := m) (fun s => mem_bits)
      refine ⟨_, rfl, D, intsL (behindL t (bitsN t.steps.length m)), rfl, .inl (.inl (by rw [← natV_ints]; exact e2)), by rw [List.length_map]; omega, ints_small sm fun s hs => ((hm s).mp hs).1, fun S c nS c60 => ?_⟩
      refine ⟨S, _, c, rfl, upd_same, by omega, fun ns p pw mem _ hp => ?_⟩
      have e := set_bits pw mem hm
      subst e
      have s3 := same_new' (o := SetO w S (fun j => decide (j ∈ intsL (behindL t (bitsN t.steps.length m)))) c) nS
      have s4 := same_new' (o := .lst ((intsL (bitsN t.steps.length (imgM t m))).map V.int)) hp
      exact q p _ (sD.trans (s2.trans (s3.trans s4))) (sD.free (s2.free (s3.free hp))) (by rw [upd_same, ← natV_ints])

theorem cutN_to (l : List Nat) (n : Nat) : cutV (natV l) none (some (n : Int)) = natV (l.take n) := by
  unfold cutV
  rw [HT.sIx_none, HT.sIx_nat, List.length_map, List.drop_zero, Nat.sub_zero, ← List.map_take]
  by_cases h : n ≤ l.length
  · rw [Nat.min_eq_left h]
  · rw [Nat.min_eq_right (by omega), List.take_of_length_le (Nat.le_refl _), List.take_of_length_le (by omega)]
def spRows : Sp := fun vs H Q _ => ∃ (x : V) (t : Tb) (r : Addr) (ps : List Addr), vs = [x, .ref r] ∧ Dt H x t.d ∧ Sm t ∧ H r = some (.lst (ps.map V.ref)) ∧ (∀ i, i < 6 → ∃ p, ps[i]? = some p ∧ H p = some (.lst (natV (lotL t i)))) ∧ ∀ H', Same H H' → Q (.bl true) H'
theorem bits_nice {k m : Nat} (h : k ≤ 100) : Nice (.list (natD (bitsN k m))) := (Bnd.nats (n := 100) (c := 100) (fun x hx => by have := (mem_bits.mp hx).1; omega) (Nat.le_trans (bits_len k m) h) (Nat.le_refl _)).nice (by decide) (by decide)
theorem ok_law_rows_right (T : Tx K mg) : FnG P w K mg base CX0 1 T.a_law_rows_right T.d_law_rows_right ["_law_table_told", "_law_lots"] spRows := by
  refine bodyG0 T.F_law_rows_right sc_law_rows_right (fun vs H Q E h => ?_) (fun cdv A outer s H vs Q E gd hr h => ?_)
  · obtain ⟨x, t, r, ps, rfl, _⟩ := h; rfl
  · obtain ⟨x, t, r, ps, rfl, hd, sm, hr2, hps, q⟩ := h
    refine ⟨_, (pss_cons (ps_set (i := 2) sc_law_rows_right.nd rfl (Or.inl rfl) (pe_lst (pa_cons pe_int pa_nil)))
      (pss_cons (ps_for PassesOwn.never rfl (pi_range1 (by rfl) T.z_range (pa_cons pe_int pa_nil)) (pg_name (i := 3) sc_law_rows_right.nd rfl (Or.inl rfl)) (pss_cons (ps_if (pt_cmpR (op_neT hr.units) (pe_callB (cr_sortedSetW (w := w) rfl rfl) (by rfl) T.z_sorted (by decide +kernel) (pa_cons (pe_callTy (cr_setI (K := K) (w := w) rfl rfl rfl) (by rfl) T.z_set (by decide +kernel) (pa_cons (pv 2) pa_nil)) pa_nil)) (pe_ix (ix_listK (K := K) rfl) (pv 1) (pv 3) (fun _ _ => rfl)) (nomark _)) (pss_one (ps_ret pe_bl)) pss_nil)
      (pss_cons (ps_set (i := 4) sc_law_rows_right.nd rfl (Or.inl rfl) (pe_lst pa_nil))
      (pss_cons (ps_for PassesOwn.never rfl (pi_list (pe_slice (sl_listK (K := K) rfl) (pv 2) po_none (po_some pe_int))) (pg_name (i := 5) sc_law_rows_right.nd rfl (Or.inl rfl)) (pss_one (ps_set (i := 4) sc_law_rows_right.nd rfl (Or.inl rfl) (pe_op op_cat (pv 4) (pe_ix (ix_listK (K := K) rfl) (pe_ix (ix_tupK (K := K) rfl) (pv 0) pe_int (fun _ _ => rfl)) (pv 5) (fun _ _ => rfl))))))
      (pss_cons (ps_set (i := 2) sc_law_rows_right.nd rfl (Or.inl rfl) (pv 4))
      (pss_one (ps_if (pt_cmpR op_gt (pe_callB (call_lenK (K := K) rfl) (by rfl) T.z_len (by decide +kernel) (pa_cons (pv 2) pa_nil)) pe_int (nomark _)) (pss_one (ps_ret pe_bl)) pss_nil)))))))
      (pss_one (ps_ret pe_bl)))), ?_⟩
    have le1 : ∀ {n : Nat}, n ≤ 1000 → n ≤ sizeLine := fun h => by rw [sizeLine_eq]; omega
    obtain ⟨a, bb, cc, ys, rfl, ha, hb, hyl, hrow, hcc, _⟩ := hd.tab
    have z6 := sm.few
    refine ⟨le1 (by show 1 ≤ 1000; decide), fun D hD => ?_⟩
    have sD := same_new' (o := .lst [.int 0]) hD
    have eD : (upd H D (.lst [.int 0])) D = some (.lst (natV [0])) := upd_same
    revert sD eD
    generalize (upd H D (.lst [.int 0])) = H1
    intro sD eD
    refine ⟨6, rfl, by decide, by decide, ?_⟩
    refine for_range (n := 6) (fun i σ H' => ∃ (D : Addr) (F : List Nat) (z3 z4 z5 : Option V), σ = [some (.ref a), some (.ref r), some (.ref D), z3, z4, z5] ∧ Same H H' ∧ H' D = some (.lst (natV F)) ∧ F.length ≤ 300 ∧ ∀ s, s ∈ F ↔ s < t.steps.length ∧ (lotM t i).testBit s = true) ⟨D, [0], none, none, none, rfl, sD, eD, by decide, fun s => ?_⟩ ?_ ?_
    · rw [List.mem_singleton]
      constructor
      · rintro rfl
        exact ⟨sm.good.some, (by decide : (1 : Nat).testBit 0 = true)⟩
      · rintro ⟨_, h⟩
        cases s with
        | zero => rfl
        | succ s =>
          exfalso
          have h : (1 : Nat).testBit (s + 1) = true := h
          rw [Nat.testBit_succ, show 1 / 2 = 0 from rfl, Nat.zero_testBit] at h
          cases h
    · rintro i σ H2 hi ⟨D, F, z3, z4, z5, rfl, s2, e2, lF, hF⟩
      obtain ⟨p, hp1, hp2⟩ := hps i hi
      refine ⟨_, rfl, D, intsL F, rfl, .inl (.inl (by rw [← natV_ints]; exact e2)), by rw [List.length_map]; omega, ints_small sm fun s hs => ((hF s).mp hs).1, fun S c nS c60 => ?_⟩
      refine ⟨S, _, c, rfl, upd_same, by omega, fun ns v pw mem _ hv => ?_⟩
      have e := set_bits pw mem hF
      subst e
      have s3 := same_new' (o := SetO w S (fun j => decide (j ∈ intsL F)) c) nS
      have s4 := same_new' (o := .lst ((intsL (bitsN t.steps.length (lotM t i))).map V.int)) hv
      have e4 : (upd (upd H2 S (SetO w S (fun j => decide (j ∈ intsL F)) c)) v (.lst ((intsL (bitsN t.steps.length (lotM t i))).map V.int))) v = some (.lst (natV (lotL t i))) := by
        rw [upd_same, ← natV_ints]
        rfl
      have s24 := s3.trans s4
      revert e4 s24
      generalize (upd (upd H2 S (SetO w S (fun j => decide (j ∈ intsL F)) c)) v (.lst ((intsL (bitsN t.steps.length (lotM t i))).map V.int))) = H4
      intro e4 s24
      have s04 := s2.trans s24
      have e24 := s24 _ _ e2
      refine ⟨_, rfl, _, rfl, r, _, (0 + (i : Int)), _, rfl, rfl, .inl (.inl (s04 _ _ hr2)), (by rw [Int.zero_add]; exact atI_nat (j := i) (v := .ref p) (by rw [List.getElem?_map, hp1]; rfl)), ?_⟩
      have nice : Nice (.list (natD (lotL t i))) := bits_nice (by omega)
      refine ⟨_, _, Dt.nats e4, Dt.nats (s04 _ _ hp2), nice.shaped, nice.shaped, _, rfl, ?_⟩
      rw [nice.refl]
      refine iteF ?_
      refine ⟨Nat.zero_le _, fun G hG => ?_⟩
      have s5 := same_new' (o := .lst []) hG
      have e5 : (upd H4 G (.lst [])) G = some (.lst (natV [])) := upd_same
      have e25 := s5 _ _ e24
      revert s5 e5 e25
      generalize (upd H4 G (.lst [])) = H5
      intro s5 e5 e25
      refine ⟨_, rfl, 300, rfl, D, _, rfl, .inl (.inl e25), fun u hu => ?_⟩
      have ec : cutV (natV F) none (some 300) = natV F := by
        have := cutN_to F 300
        rw [List.take_of_length_le lF] at this
        exact this
      rw [ec]
      have s6 := same_new' (o := .lst (natV F)) hu
      have e6 : (upd H5 u (.lst (natV F))) u = some (.lst (natV F)) := upd_same
      have e56 := s6 _ _ e5
      revert s6 e6 e56
      generalize (upd H5 u (.lst (natV F))) = H6
      intro s6 e6 e56
      have sq6 : SqL K H6 u (natV F) := .inl (.inl e6)
      have s06 := s04.trans (s5.trans s6)
      refine ⟨u, rfl, ⟨_, sq6⟩, ?_⟩
      refine for_list (K := K) (a := u) (xs := natV F) (fun j σ H' => ∃ (G : Addr) (z5 : Option V), σ = [some (.ref a), some (.ref r), some (.ref D), some (.int (0 + (i : Int))), some (.ref G), z5] ∧ Same H6 H' ∧ H' G = some (.lst (natV (behindL t (F.take j))))) ⟨G, z5, rfl, Same.refl _, e56⟩ (fun j σ H' _ ⟨_, _, _, e, _⟩ => e.seq sq6) ?_ ?_
      · rintro j y σ H7 hj ⟨G, z5, rfl, s7, e7⟩
        obtain ⟨b, hb2, rfl⟩ := nat_get hj
        have bm := ((hF b).mp (List.mem_of_getElem? hb2)).1
        have hl := List.getElem?_eq_getElem bm
        have gl : t.steps.getD b [] = t.steps[b] := by rw [List.getD_eq_getElem?_getD, hl]; rfl
        obtain ⟨w', hu1, hu2⟩ := hrow b _ hl
        have on : ∀ {c : Addr} {o : HO}, H c = some o → H7 c = some o := fun {c o} h => s7 _ _ (s06 _ _ h)
        have l1 := behind_len sm (F.take j)
        have l2 := (sm.row hl).1
        rw [List.length_take] at l1
        refine ⟨_, rfl, _, rfl, a, _, 1, _, rfl, rfl, .inl (.inl (on ha)), rfl, _, rfl, bb, _, (b : Int), _, rfl, rfl, .inl (.inl (on hb)), atI_nat hu1, G, w', _, _, rfl, rfl, e7, on hu2, by rw [natV_len, natV_len, sizeLine_eq]; omega, fun F' hF' => ⟨F', _, rfl, s7.trans (same_new' hF'), ?_⟩⟩
        rw [upd_same, behind_take hb2, gl]
        unfold natV
        rw [List.map_append]
      · rintro σ H7 ⟨G, z5', rfl, s7, e7⟩
        rw [natV_len, List.take_length] at e7
        have l1 := behind_len sm F
        refine ⟨_, rfl, _, rfl, G, _, rfl, .inl (.inl (.inl e7)), _, _, rfl, rfl, _, rfl, ?_⟩
        rw [natV_len]
        have s07 := s06.trans s7
        by_cases h3 : (300 : Int) < ((behindL t F).length : Int)
        · rw [decide_eq_true h3]
          exact iteT (q _ s07)
        · rw [decide_eq_false h3]
          exact iteF ⟨G, _, _, _, _, rfl, s07, e7, by omega, behind_img sm hF⟩
    · rintro σ H2 ⟨D, F, z3, z4, z5, rfl, s2, _⟩
      exact q _ s2

end

end K43

set_option Elab.async false
set_option linter.all false
set_option maxRecDepth 100000
set_option maxHeartbeats 4000000
namespace K43
open PySem PySem.Spec PyProof.Rows L2 Hw
section
variable {P : Program} {w : World} {K : PySem.W.Frag} {mg : Str → Option Value} {base : Heap}

theorem veq (x : Str) : decide (V.str x = V.str x) = true := decide_eq_true rfl
def lotsL (t : Tb) (n : Nat) : List (List Nat) := (List.range n).map (lotL t)
def toldD (t : Tb) (n b : Nat) : PyData := .tuple [lotsD ((lotsL t n).take b), lotsD ((lotsL t n).drop b)]
theorem LotsAt.dt {H H' : Hp} {t : Tb} {n b : Nat} {a p1 p2 : Addr} {q1 q2 : List Addr} (l : LotsAt H H' t n b a p1 p2 q1 q2) : Dt H' (.ref a) (toldD t n b) ∧ Dt H' (.ref p2) (lotsD ((lotsL t n).drop b)) := by
  have e1 : q1.map (dN H') = (lotsL t n).take b := by
    have := congrArg (List.take b) l.dat
    rw [List.map_append, List.take_append_of_le_length (by rw [List.length_map, l.n1]; exact Nat.le_refl _), List.take_of_length_le (by rw [List.length_map, l.n1]; exact Nat.le_refl _)] at this
    exact this
  have e2 : q2.map (dN H') = (lotsL t n).drop b := by
    have := congrArg (List.drop b) l.dat
    rw [List.map_append, List.drop_append_of_le_length (by rw [List.length_map, l.n1]; exact Nat.le_refl _), List.drop_of_length_le (by rw [List.length_map, l.n1]; exact Nat.le_refl _)] at this
    exact this
  have d1 := Dt.of_lots l.l1 fun r hr => (l.new r (List.mem_append_left _ hr)).2.1
  have d2 := Dt.of_lots l.l2 fun r hr => (l.new r (List.mem_append_right _ hr)).2.1
  rw [e1] at d1
  rw [e2] at d2
  exact ⟨.tup l.tup (.cons d1 (.cons d2 .nil)), d2⟩
theorem lots_len (t : Tb) (n : Nat) : (lotsL t n).length = n := by unfold lotsL; rw [List.length_map, List.length_range]
theorem lots_few {t : Tb} (sm : Sm t) (n : Nat) : ∀ l ∈ lotsL t n, Few l := fun l hl => by
  obtain ⟨i, _, rfl⟩ := List.mem_map.mp hl
  exact few_bits (by have := sm.few; omega)
theorem lots_nice {L : List (List Nat)} (h : ∀ l ∈ L, Few l) : ∀ d ∈ L.map lotD, Nice d := fun d hd => by
  obtain ⟨l, hl, rfl⟩ := List.mem_map.mp hd
  exact (h l hl).nice
theorem lot_nice {t : Tb} (sm : Sm t) (i : Nat) : Nice (lotD (lotL t i)) := bits_nice (by have := sm.few; omega)
theorem part_bnd {t : Tb} (sm : Sm t) {n : Nat} (h : n ≤ 64) {L : List (List Nat)} (hL : ∀ l ∈ L, l ∈ lotsL t n) (hl : L.length ≤ n) : Bnd 2 7000 (lotsD L) := by
  refine Bnd.list (k := 1) (b := 100) (n := 64) (c := 7000) (fun d hd => ?_) (by rw [List.length_map]; omega) (by decide)
  obtain ⟨l, hl, rfl⟩ := List.mem_map.mp hd
  exact (lots_few sm n l (hL l hl)).bnd
theorem told_nice {t : Tb} (sm : Sm t) {n b : Nat} (h : n ≤ 64) : Nice (toldD t n b) := by
  have ln := lots_len t n
  refine (Bnd.tuple (k := 2) (b := 7000) (n := 2) (c := 14002) (fun d hd => ?_) (by exact Nat.le_refl 2) (by decide)).nice (by decide) (by decide)
  simp only [List.mem_cons, List.not_mem_nil, or_false] at hd
  rcases hd with rfl | rfl
  · exact part_bnd sm h (fun l hl => List.mem_of_mem_take hl) (by rw [List.length_take]; omega)
  · exact part_bnd sm h (fun l hl => List.mem_of_mem_drop hl) (by rw [List.length_drop]; omega)
theorem tab_nice {t : Tb} (sm : Sm t) : Nice t.d := by
  have hm := sm.narrow
  have hf := sm.few
  refine Bnd.nice (k := 3) (b := 993) (Bnd.tuple (k := 2) (b := 330) (n := 3) (fun d hd => ?_) (Nat.le_refl _) (by decide)) (by decide) (by decide)
  simp only [List.mem_cons, List.not_mem_nil, or_false] at hd
  rcases hd with rfl | rfl | rfl
  · exact .int (by omega)
  · refine Bnd.list (k := 1) (b := 30) (n := 6) (fun d hd => ?_) (by rw [List.length_map]; exact hf) (by decide)
    obtain ⟨r, hr, rfl⟩ := List.mem_map.mp hd
    obtain ⟨i, il, rfl⟩ := List.mem_iff_getElem.mp hr
    have k := sm.row (List.getElem?_eq_getElem il)
    exact Bnd.nats (n := 30) (fun x hx => by have := k.2 x hx; omega) (by omega) (by decide)
  · refine (Bnd.list (k := 0) (b := 0) (n := 6) (c := 6) (fun d hd => ?_) (by rw [List.length_map, sm.good.same]; exact hf) (by decide)).up (by decide) (by decide)
    obtain ⟨r, hr, rfl⟩ := List.mem_map.mp hd
    exact .bl r
theorem wid_nice {t : Tb} {n b : Nat} {e : Bool} (h : n ≤ 64) : Nice (widD t n b e) := by
  have pl := plainF_len ((metsL t n e).take b) ((metsL t n e).drop b)
  have ml := mets_len t n e
  rw [List.length_take, List.length_drop] at pl
  exact wd_nice (by omega) (by omega)
theorem in_bls (l : List Bool) : inV (.bl true) (blV l) = l.any id := by
  unfold inV
  rw [List.any_map]
  congr 1
  funext b
  cases b <;> rfl
theorem notin_bls (l : List Bool) : (!inV (.bl false) (blV l)) = l.all id := by
  induction l with
  | nil => rfl
  | cons b r ih =>
    rw [List.all_cons, ← ih]
    show (!(eqV (.bl b) (.bl false) || inV (.bl false) (blV r))) = _
    cases b <;> simp [eqV]
theorem flat_bls (l : List Bool) : (blV l).all flatV = true := by
  rw [List.all_map, List.all_eq_true]
  intro x _
  rfl
def endsL (t : Tb) (i : Nat) : List Bool := (lotL t i).map fun s => t.ends.getD s false
theorem ends_any (t : Tb) (i : Nat) : (endsL t i).any id = metL t (lotL t i) true := by unfold endsL metL; rw [if_pos rfl, List.any_map]; rfl
theorem ends_all (t : Tb) (i : Nat) : (endsL t i).all id = metL t (lotL t i) false := by unfold endsL metL; rw [if_neg Bool.false_ne_true, List.all_map]; rfl
/-- texts of lots differ -/
theorem shown_diff : ((List.range 64).map fun m => (lotD (bitsN 6 m)).shown).Nodup := by decide +kernel
theorem lot_six {t : Tb} (sm : Sm t) (i : Nat) : lotL t i = bitsN 6 (lotM t i) := by
  have h := lot_lt sm.good i
  exact (bits_more (n := lotM t i) 6 sm.few fun j hj => Nat.testBit_lt_two_pow (Nat.lt_of_lt_of_le h (Nat.pow_le_pow_right (by decide) hj))).symm
theorem texts_diff {t : Tb} (sm : Sm t) {n b : Nat} (o : Orb t n b) : ((List.range n).map fun i => (lotD (lotL t i)).shown).Nodup := by
  refine List.pairwise_map.mpr (List.Pairwise.imp_of_mem ?_ (List.pairwise_lt_range (n := n)))
  intro i j hi hj hij e
  rw [lot_six sm, lot_six sm] at e
  have h1 := Nat.lt_of_lt_of_le (lot_lt sm.good i) sm.pow
  have h2 := Nat.lt_of_lt_of_le (lot_lt sm.good j) sm.pow
  have ne := o.other i j hij (List.mem_range.mp hj)
  have pw := List.pairwise_iff_getElem.mp shown_diff
  rcases Nat.lt_or_gt_of_ne ne with h | h
  · exact pw (lotM t i) (lotM t j) (by simpa using h1) (by simpa using h2) h (by simpa using e)
  · exact pw (lotM t j) (lotM t i) (by simpa using h2) (by simpa using h1) h (by simpa using e.symm)
theorem rep_get {α : Type} (q : List α) : ∀ (k j : Nat), j < k * q.length → ((List.replicate k q).flatten)[j]? = q[j % q.length]?
  | 0, j, h => by rw [Nat.zero_mul] at h; omega
  | k + 1, j, h => by
    rw [List.replicate_succ, List.flatten_cons]
    by_cases hj : j < q.length
    · rw [List.getElem?_append_left hj, Nat.mod_eq_of_lt hj]
    · rw [List.getElem?_append_right (by omega), rep_get q k (j - q.length) (by rw [Nat.succ_mul] at h; omega), ← Nat.mod_eq_sub_mod (by omega)]
/-- the lots one by one, the round gone round again -/
theorem LotsAt.more {H H' : Hp} {t : Tb} {n b : Nat} {a p1 p2 : Addr} {q1 q2 : List Addr} (l : LotsAt H H' t n b a p1 p2 q1 q2) {i : Nat} (hi : i < n + 6 * (n - b)) : ∃ r, ((q1 ++ q2) ++ (List.replicate 6 q2).flatten)[i]? = some r ∧ H' r = some (.lst (natV (lotL t i))) := by
  have ll := l.len
  have lt := l.orb.lt
  have at_ : ∀ {k : Nat}, k < n → ∃ r, (q1 ++ q2)[k]? = some r ∧ H' r = some (.lst (natV (lotL t k))) := fun {k} hk => by
    have h : k < (q1 ++ q2).length := by omega
    obtain ⟨r, h1, _, _, h4⟩ := l.get (i := k) (x := .ref (q1 ++ q2)[k]) (by rw [List.getElem?_map, List.getElem?_eq_getElem h]; rfl)
    cases h1
    exact ⟨_, List.getElem?_eq_getElem h, h4⟩
  by_cases h : i < n
  · obtain ⟨r, h1, h2⟩ := at_ h
    exact ⟨r, by rw [List.getElem?_append_left (by omega)]; exact h1, h2⟩
  · have n2 := l.n2
    have mlt := Nat.mod_lt (i - n) (show 0 < n - b by omega)
    obtain ⟨r, h1, h2⟩ := at_ (k := b + (i - n) % (n - b)) (by omega)
    refine ⟨r, ?_, ?_⟩
    · rw [List.getElem?_append_right (by omega), ll, rep_get q2 6 (i - n) (by omega), n2]
      rw [List.getElem?_append_right (by rw [l.n1]; omega), l.n1, Nat.add_sub_cancel_left] at h1
      exact h1
    · rw [h2]
      have e := l.orb.rounds ((i - n) / (n - b) + 1) ((i - n) % (n - b))
      have d := Nat.mod_add_div (i - n) (n - b)
      rw [Nat.succ_mul, Nat.mul_comm] at e
      unfold lotL
      rw [← e, show b + (i - n) % (n - b) + ((n - b) * ((i - n) / (n - b)) + (n - b)) = i by omega]
def spRight : Sp := fun vs H Q _ => ∃ (a : Addr) (t m : Int), vs = [.ref a] ∧ Gn a t m H ∧ m + 100000 < 4294967296 ∧ ∀ H', SameX a H H' → Q (.bl true) H'
theorem ok_law_right (T : Tx K mg) : FnG P w K mg base CX0 8 T.a_law_right T.d_law_right ["_law_generator_here"] spRight := by
  have G_law_table := ok_law_table (P := P) (w := w) (base := base) T
  have G_lots_reached := ok_lots_reached (P := P) (w := w) (base := base) T
  have G_law_next := ok_law_next (P := P) (w := w) (base := base) T
  have G_taken_widths := ok_taken_widths (P := P) (w := w) (base := base) T
  have G_full_widths := ok_full_widths (P := P) (w := w) (base := base) T
  have G_law_plain := ok_law_plain (P := P) (w := w) (base := base) T
  have G_law_rows_right := ok_law_rows_right (P := P) (w := w) (base := base) T
  refine bodyG0 T.F_law_right sc_law_right (fun vs H Q E h => ?_) (fun cdv A outer s H vs Q E gd hr h => ?_)
  · obtain ⟨a, t, m, rfl, _⟩ := h; rfl
  · obtain ⟨g, tg, m, rfl, g0, hm, q⟩ := h
    refine ⟨_, (pss_cons (ps_set (i := 1) sc_law_right.nd rfl (Or.inr rfl) (pe_g G_law_table gd (hr.mono (by decide)) (by rfl) T.g_law_table T.F_law_table.kp T.b_law_table .nil pass0 (pa_cons (pv 0) pa_nil)))
      (pss_cons (ps_par (i := 2) (j := 3) rfl sc_law_right.nd rfl rfl (by decide) rfl rfl (pa_cons (pe_callB (call_reprT gd hr.units) (by rfl) T.z_repr (by decide +kernel) (pa_cons (pv 1) pa_nil)) (pa_cons (pe_g G_lots_reached gd (hr.mono (by decide)) (by rfl) T.g_lots_reached T.F_lots_reached.kp T.b_lots_reached .nil pass0 (pa_cons (pv 1) pa_nil)) pa_nil)) (by rfl))
      (pss_cons (ps_if (PW.pt (pw_or (pt_not (pt_val (pe_callB call_isD (by rfl) T.z_isinstance (by decide +kernel) (pa_cons (pv 3) (pa_cons (pe_bltn (v := .ty "tuple") (by rfl) T.z_tuple (by decide +kernel) rfl) pa_nil))))) (pw_or (pt_cmpR op_ne (pe_callB (call_lenK (K := K) rfl) (by rfl) T.z_len (by decide +kernel) (pa_cons (pv 3) pa_nil)) pe_int (nomark _)) (pw_or1 (pt_cmpR (op_eqT hr.units) (pe_ix (ix_tupK (K := K) rfl) (pv 3) pe_int (fun _ _ => rfl)) (pe_lst pa_nil) (nomark _)))))) (pss_one (ps_ret pe_bl)) pss_nil)
      (pss_cons (ps_par (i := 4) (j := 5) rfl sc_law_right.nd rfl rfl (by decide) rfl rfl (pa_cons (pe_op op_cat (pe_ix (ix_tupK (K := K) rfl) (pv 3) pe_int (fun _ _ => rfl)) (pe_ix (ix_tupK (K := K) rfl) (pv 3) pe_int (fun _ _ => rfl))) (pa_cons (pe_lst (pa_cons pe_int pa_nil)) pa_nil)) (by rfl))
      (pss_cons (ps_for PassesOwn.never rfl (pi_list (pv 4)) (pg_name (i := 6) sc_law_right.nd rfl (Or.inl rfl)) (pss_cons (ps_if (pt_cmpR op_ne (pe_callB (call_reprT gd hr.units) (by rfl) T.z_repr (by decide +kernel) (pa_cons (pv 6) pa_nil)) (pe_callB (call_reprT gd hr.units) (by rfl) T.z_repr (by decide +kernel) (pa_cons (pv 5) pa_nil)) (nomark _)) (pss_one (ps_ret pe_bl)) pss_nil)
      (pss_one (ps_set (i := 5) sc_law_right.nd rfl (Or.inl rfl) (pe_g G_law_next gd (hr.mono (by decide)) (by rfl) T.g_law_next T.F_law_next.kp T.b_law_next .nil pass0 (pa_cons (pv 1) (pa_cons (pv 5) pa_nil)))))))
      (pss_cons (ps_if (PW.pt (pw_or (pt_cmpR op_ne (pe_callB (call_reprT gd hr.units) (by rfl) T.z_repr (by decide +kernel) (pa_cons (pv 5) pa_nil)) (pe_callB (call_reprT gd hr.units) (by rfl) T.z_repr (by decide +kernel) (pa_cons (pe_ix (ix_listK (K := K) rfl) (pe_ix (ix_tupK (K := K) rfl) (pv 3) pe_int (fun _ _ => rfl)) pe_int (fun _ _ => rfl)) pa_nil)) (nomark _)) (pw_or1 (pt_cmpR op_ne (pe_lenSetT (K := K) rfl rfl (by rfl) T.z_len (by rfl) T.z_set (pe_lc (own := [("_law_found", 6)]) (g := gName 6) (tt := tYes) rfl sc_law_right.nd (pi_list (pv 4)) (blkOk_by (N := ["_law_generator_here", "_law_table_told", "_law_kept", "_law_told", "_law_lots", "_law_lot", "_law_found", "_law_ends", "_law_some", "_law_whole", "_law_ahead", "_law_longer", "_law_before", "_law_stand"]) (sc := defScope s_law_right) (by decide +kernel)) (fun _ _ _ _ _ => (pg_name (i := 6) sc_law_right.nd rfl (Or.inl rfl))) (fun _ _ _ _ _ => pts_nil) (fun _ _ _ _ _ => (pe_callB (call_reprT gd hr.units) (by rfl) T.z_repr (by decide +kernel) (pa_cons (pv 6) pa_nil))))) (pe_callB (call_lenK (K := K) rfl) (by rfl) T.z_len (by decide +kernel) (pa_cons (pv 4) pa_nil)) (nomark _))))) (pss_one (ps_ret pe_bl)) pss_nil)
      (pss_cons (ps_setLc (i := 7) (own := [("_law_found", 6)]) (g := gName 6) (tt := tYes) rfl sc_law_right.nd rfl rfl (sw_true rfl rfl rfl (by decide +kernel)) (pi_list (pv 4)) (blkOk_by (N := ["_law_generator_here", "_law_table_told", "_law_kept", "_law_told", "_law_lots", "_law_lot", "_law_found", "_law_ends", "_law_some", "_law_whole", "_law_ahead", "_law_longer", "_law_before", "_law_stand"]) (sc := defScope s_law_right) (by decide +kernel)) (fun _ _ _ _ _ => (pg_name (i := 6) sc_law_right.nd rfl (Or.inl rfl))) (fun _ _ _ _ _ => pts_nil) (fun _ _ _ _ _ => (pe_lc (own := [("_law_stand", 13)]) (g := gName 13) (tt := tYes) rfl sc_law_right.nd (pi_listK (K := K) rfl (pv 6)) (blkOk_by (by kernel_rfl)) (fun _ _ _ _ _ => (pg_name (i := 13) sc_law_right.nd rfl (Or.inl rfl))) (fun _ _ _ _ _ => pts_nil) (fun _ _ _ _ _ => (pe_ix (ix_listK (K := K) rfl) (pe_ix (ix_tupK (K := K) rfl) (pv 1) pe_int (fun _ _ => rfl)) (pv 13) (fun _ _ => rfl))))))
      (pss_cons (ps_par (i := 8) (j := 9) rfl sc_law_right.nd rfl rfl (by decide) rfl rfl (pa_cons (pe_lc (own := [("_law_found", 6)]) (g := gName 6) (tt := tYes) rfl sc_law_right.nd (pi_list (pv 7)) (blkOk_by (N := ["_law_generator_here", "_law_table_told", "_law_kept", "_law_told", "_law_lots", "_law_lot", "_law_found", "_law_ends", "_law_some", "_law_whole", "_law_ahead", "_law_longer", "_law_before", "_law_stand"]) (sc := defScope s_law_right) (by decide +kernel)) (fun _ _ _ _ _ => (pg_name (i := 6) sc_law_right.nd rfl (Or.inl rfl))) (fun _ _ _ _ _ => pts_nil) (fun _ _ _ _ _ => (pe_cmpR (op_inK (K := K) rfl) pe_bl (pv 6) (by rfl)))) (pa_cons (pe_lc (own := [("_law_found", 6)]) (g := gName 6) (tt := tYes) rfl sc_law_right.nd (pi_list (pv 7)) (blkOk_by (N := ["_law_generator_here", "_law_table_told", "_law_kept", "_law_told", "_law_lots", "_law_lot", "_law_found", "_law_ends", "_law_some", "_law_whole", "_law_ahead", "_law_longer", "_law_before", "_law_stand"]) (sc := defScope s_law_right) (by decide +kernel)) (fun _ _ _ _ _ => (pg_name (i := 6) sc_law_right.nd rfl (Or.inl rfl))) (fun _ _ _ _ _ => pts_nil) (fun _ _ _ _ _ => (pe_cmpR (op_notInK (K := K) rfl) pe_bl (pv 6) (by rfl)))) pa_nil)) (by rfl))
      (pss_cons (ps_set (i := 10) sc_law_right.nd rfl (Or.inl rfl) (pe_callB (call_lenK (K := K) rfl) (by rfl) T.z_len (by decide +kernel) (pa_cons (pe_ix (ix_tupK (K := K) rfl) (pv 3) pe_int (fun _ _ => rfl)) pa_nil)))
      (pss_cons (ps_if (pt_cmpR op_ne (pe_callB (call_reprT gd hr.units) (by rfl) T.z_repr (by decide +kernel) (pa_cons (pe_gk G_taken_widths gd (hr.mono (by decide)) (by rfl) T.g_taken_widths T.F_taken_widths.kp T.w_taken_widths_table pass0 (pk_cons (pv 1) pk_nil)) pa_nil)) (pe_callB (call_reprT gd hr.units) (by rfl) T.z_repr (by decide +kernel) (pa_cons (pe_g G_law_plain gd (hr.mono (by decide)) (by rfl) T.g_law_plain T.F_law_plain.kp T.b_law_plain .nil pass0 (pa_cons (pe_tup (pa_cons (pe_slice (sl_listK (K := K) rfl) (pv 8) po_none (po_some (pv 10))) (pa_cons (pe_slice (sl_listK (K := K) rfl) (pv 8) (po_some (pv 10)) po_none) pa_nil))) pa_nil)) pa_nil)) (nomark _)) (pss_one (ps_ret pe_bl)) pss_nil)
      (pss_cons (ps_if (pt_cmpR op_ne (pe_callB (call_reprT gd hr.units) (by rfl) T.z_repr (by decide +kernel) (pa_cons (pe_gk G_full_widths gd (hr.mono (by decide)) (by rfl) T.g_full_widths T.F_full_widths.kp T.w_full_widths_table pass0 (pk_cons (pv 1) pk_nil)) pa_nil)) (pe_callB (call_reprT gd hr.units) (by rfl) T.z_repr (by decide +kernel) (pa_cons (pe_g G_law_plain gd (hr.mono (by decide)) (by rfl) T.g_law_plain T.F_law_plain.kp T.b_law_plain .nil pass0 (pa_cons (pe_tup (pa_cons (pe_slice (sl_listK (K := K) rfl) (pv 9) po_none (po_some (pv 10))) (pa_cons (pe_slice (sl_listK (K := K) rfl) (pv 9) (po_some (pv 10)) po_none) pa_nil))) pa_nil)) pa_nil)) (nomark _)) (pss_one (ps_ret pe_bl)) pss_nil)
      (pss_cons (ps_set (i := 11) sc_law_right.nd rfl (Or.inl rfl) (pe_op op_cat (pv 4) (pe_op op_rep (pe_ix (ix_tupK (K := K) rfl) (pv 3) pe_int (fun _ _ => rfl)) pe_int)))
      (pss_cons (ps_if (pt_not (pt_val (pe_g G_law_rows_right gd (hr.mono (by decide)) (by rfl) T.g_law_rows_right T.F_law_rows_right.kp T.b_law_rows_right .nil pass0 (pa_cons (pv 1) (pa_cons (pe_slice (sl_listK (K := K) rfl) (pv 11) po_none (po_some pe_int)) pa_nil))))) (pss_one (ps_ret pe_bl)) pss_nil)
      (pss_cons (ps_set (i := 12) sc_law_right.nd rfl (Or.inl rfl) (pe_callB (call_reprT gd hr.units) (by rfl) T.z_repr (by decide +kernel) (pa_cons (pv 3) pa_nil)))
      (pss_cons (ps_for PassesOwn.never rfl (pi_list (pv 4)) (pg_name (i := 6) sc_law_right.nd rfl (Or.inl rfl)) (pss_one (ps_expr (pe_bm PySem.F.plainAttrs_list PySem.F.slot_list_append PySem.F.type_list_append mt_append (pv 6) (pa_cons pe_int pa_nil)))))
      (pss_cons (ps_expr (pe_bm PySem.F.plainAttrs_list PySem.F.slot_list_append PySem.F.type_list_append mt_append (pe_ix (ix_tupK (K := K) rfl) (pv 3) pe_int (fun _ _ => rfl)) (pa_cons (pe_lst pa_nil) pa_nil)))
      (pss_one (ps_ret (pe_and (pe_cmpR op_eq (pe_callB (call_reprT gd hr.units) (by rfl) T.z_repr (by decide +kernel) (pa_cons (pe_gk G_lots_reached gd (hr.mono (by decide)) (by rfl) T.g_lots_reached T.F_lots_reached.kp T.w_lots_reached_table pass0 (pk_cons (pv 1) pk_nil)) pa_nil)) (pv 12) (nomark _)) (pe_one (pe_cmpR op_eq (pe_callB (call_reprT gd hr.units) (by rfl) T.z_repr (by decide +kernel) (pa_cons (pv 1) pa_nil)) (pv 2) (nomark _)))))))))))))))))))))), ?_⟩
    have le1 : ∀ {n : Nat}, n ≤ 10000 → n ≤ sizeLine := fun h => by rw [sizeLine_eq]; omega
    refine ⟨_, rfl, g, tg, m, rfl, g0, by omega, fun x t H1 x1 dx1 sm => ?_⟩
    have dx := dx1.on
    have tn := tab_nice sm
    have z6 := sm.few
    refine ⟨_, rfl, x, _, rfl, dx, tn.shows, _, rfl, x, t, rfl, dx, tn, sm, fun n b a p1 p2 q1 q2 H2 l => ⟨_, _, rfl, ?_⟩⟩
    have n64 : n ≤ 64 := Nat.le_trans (l.orb.few sm.good) sm.pow
    have lt := l.orb.lt
    have ll := l.len
    obtain ⟨dt, dt2⟩ := l.dt
    have toldn := told_nice sm (b := b) n64
    refine ⟨_, rfl, .ref a, _, _, _, rfl, dt, kit_tuple _, _, rfl, ?_⟩
    refine iteF ?_
    refine ⟨_, rfl, a, _, rfl, .inr (.inl (.inl l.tup)), rfl, _, rfl, ?_⟩
    rw [vi]
    refine iteF ?_
    refine ⟨_, rfl, a, _, 1, _, rfl, rfl, .inl (.inl l.tup), rfl, Nat.zero_le _, fun E1 hE1 => eq_nilM dt2 hE1 (lots_nice fun l hl => lots_few sm n l (List.mem_of_mem_drop hl)) ⟨_, rfl, ?_⟩⟩
    have ne : (((lotsL t n).drop b).map lotD).isEmpty = false := by
      rw [List.isEmpty_map]
      have : 0 < ((lotsL t n).drop b).length := by rw [List.length_drop, lots_len]; omega
      revert this
      cases (lotsL t n).drop b with
      | nil => intro h; exact absurd h (by decide)
      | cons _ _ => intro _; rfl
    rw [ne]
    refine iteF ?_
    have s3 := same_new' (o := .lst []) hE1
    revert s3
    generalize (upd H2 E1 (.lst [])) = H3
    intro s3
    refine ⟨_, rfl, a, _, 0, _, rfl, rfl, .inl (.inl (s3 _ _ l.tup)), rfl, _, rfl, a, _, 1, _, rfl, rfl, .inl (.inl (s3 _ _ l.tup)), rfl, p1, p2, _, _, rfl, rfl, s3 _ _ l.l1, s3 _ _ l.l2, le1 (by rw [List.length_map, List.length_map, ← List.length_append]; omega), fun L hL => ?_⟩
    have s4 := same_new' (o := .lst (q1.map V.ref ++ q2.map V.ref)) hL
    have eL : (upd H3 L (.lst (q1.map V.ref ++ q2.map V.ref))) L = some (.lst ((q1 ++ q2).map V.ref)) := by rw [upd_same, List.map_append]
    have nL2 : H2 L = none := s3.free hL
    revert s4 eL
    generalize (upd H3 L (.lst (q1.map V.ref ++ q2.map V.ref))) = H4
    intro s4 eL
    refine ⟨le1 (by show 1 ≤ 10000; decide), fun y hy => ⟨_, _, rfl, ?_⟩⟩
    have s5 := same_new' (o := .lst [.int 0]) hy
    have ey : (upd H4 y (.lst [.int 0])) y = some (.lst [.int 0]) := upd_same
    have eL5 := s5 _ _ eL
    revert s5 ey eL5
    generalize (upd H4 y (.lst [.int 0])) = H5
    intro s5 ey eL5
    have s25 := s3.trans (s4.trans s5)
    have sqL : SqL K H5 L ((q1 ++ q2).map V.ref) := .inl (.inl eL5)
    have lot0 : lotL t 0 = [0] := by
      rw [lot_six sm]
      show bitsN 6 1 = [0]
      decide +kernel
    dsimp only [gName]
    refine ⟨_, rfl, L, rfl, ⟨_, sqL⟩, ?_⟩
    refine for_list (K := K) (a := L) (xs := (q1 ++ q2).map V.ref) (fun i σ H' => ∃ (y : Addr) (z6 : Option V), σ = [some (.ref g), some x, some (.str t.d.shown), some (.ref a), some (.ref L), some (.ref y), z6, none, none, none, none, none, none, none] ∧ Same H5 H' ∧ H' y = some (.lst (natV (lotL t i)))) ⟨y, none, rfl, Same.refl _, by rw [ey, lot0]; rfl⟩ (fun i σ H' _ ⟨_, _, _, e, _⟩ => e.seq sqL) ?_ ?_
    · rintro i v σ H6 hi ⟨y, z6', rfl, s6, ey⟩
      obtain ⟨r, rfl, il, mr, hr2⟩ := l.get hi
      have hr6 := s6 _ _ (s25 _ _ hr2)
      refine ⟨_, rfl, .ref r, _, rfl, Dt.nats hr6, (lot_nice sm i).shows, _, rfl, .ref y, _, rfl, Dt.nats ey, (lot_nice sm i).shows, rfl, _, rfl, ?_⟩
      rw [veq]
      refine iteF ?_
      exact ⟨_, rfl, _, rfl, x, t, y, lotM t i, rfl, dx.to (l.same.trans (s25.trans s6)), sm, ey, fun p H7 s7 np hp => ⟨p, _, rfl, s6.trans s7, hp⟩⟩
    rintro σ H6 ⟨y, z6', rfl, s6, ey⟩
    rw [List.length_map, ll] at ey
    have s26 := s25.trans s6
    have eL6 := s6 _ _ eL5
    have sqL6 : SqL K H6 L ((q1 ++ q2).map V.ref) := .inl (.inl eL6)
    have back : lotL t n = lotL t b := by unfold lotL; rw [l.orb.back]
    obtain ⟨r0, hr0, hr0d⟩ : ∃ r0, (q2.map V.ref)[0]? = some (V.ref r0) ∧ H2 r0 = some (.lst (natV (lotL t n))) := by
      have h : b < (q1 ++ q2).length := by omega
      obtain ⟨r, h1, _, _, h4⟩ := l.get (i := b) (x := .ref (q1 ++ q2)[b]) (by rw [List.getElem?_map, List.getElem?_eq_getElem h]; rfl)
      cases h1
      refine ⟨_, ?_, by rw [back]; exact h4⟩
      have e := List.getElem?_eq_getElem h
      rw [List.getElem?_append_right (by rw [l.n1]; exact Nat.le_refl _), l.n1, Nat.sub_self] at e
      rw [List.getElem?_map, e]
      rfl
    refine ⟨_, rfl, .ref y, _, rfl, Dt.nats ey, (lot_nice sm n).shows, _, rfl, a, _, 1, _, rfl, rfl, .inl (.inl (s26 _ _ l.tup)), rfl, p2, _, 0, _, rfl, rfl, .inl (.inl (s26 _ _ l.l2)), atI_nat (j := 0) hr0, .ref r0, _, rfl, Dt.nats (s26 _ _ hr0d), (lot_nice sm n).shows, rfl, _, rfl, ?_⟩
    rw [veq]
    refine iteF ?_
    refine ⟨_, rfl, L, rfl, ⟨_, sqL6⟩, fun D hD => ?_⟩
    refine lc_list (K := K) (a := L) (xs := (q1 ++ q2).map V.ref) (fun i H' => Same H6 H' ∧ H' D = some (.lst (((List.range i).map fun i => (lotD (lotL t i)).shown).map V.str))) ⟨same_new' hD, upd_same⟩ (fun i H' _ e => e.1.seq sqL6) ?_ ?_
    · rintro i v H7 hi ⟨s7, e7⟩
      obtain ⟨r, rfl, il, mr, hr2⟩ := l.get hi
      refine ⟨rfl, yes_if ?_⟩
      refine ⟨_, rfl, .ref r, _, rfl, Dt.nats (s7 _ _ (s26 _ _ hr2)), (lot_nice sm i).shows, ?_⟩
      refine ⟨_, e7, by rw [List.length_map, List.length_map, List.length_range]; exact small1000 (by omega), fun c o hc => ?_, ?_⟩
      · rw [upd_ne (ne_of_none hc hD)]
        exact s7 c o hc
      · rw [upd_same, List.range_succ, List.map_append, List.map_append]
        rfl
    rintro H7 ⟨s7, e7⟩
    rw [List.length_map, ll] at e7
    have s27 := s26.trans s7
    refine ⟨D, _, rfl, .inl (.inl e7), by rw [List.length_map, List.length_range]; omega, texts_diff sm l.orb, _, rfl, L, _, rfl, .inl (.inl (.inl (s7 _ _ eL6))), rfl, _, rfl, ?_⟩
    rw [vi, List.length_map, List.length_range, List.length_map, ll, decide_eq_true rfl]
    refine iteF ?_
    have eL7 := s7 _ _ eL6
    have sqL7 : SqL K H7 L ((q1 ++ q2).map V.ref) := .inl (.inl eL7)
    clear hr0d hr0 ey s6 sqL6 eL6
    have dx7 := dx.to (l.same.trans s27)
    obtain ⟨xa, xb, xc, ys, rfl, ha, hb, hyl, hrow, hcc, _⟩ := dx7.tab
    -- the ends
    refine ⟨_, rfl, L, rfl, ⟨_, sqL7⟩, fun F hF => ?_⟩
    refine lc_list (K := K) (a := L) (xs := (q1 ++ q2).map V.ref) (fun i H' => Same H7 H' ∧ ∃ es : List Addr, H' F = some (.lst (es.map V.ref)) ∧ es.length = i ∧ ∀ j r, es[j]? = some r → r ≠ F ∧ H' r = some (.lst (blV (endsL t j)))) ⟨same_new' hF, [], upd_same, rfl, fun j r h => by simp at h⟩ (fun i H' _ e => e.1.seq sqL7) ?_ ?_
    · rintro i v H8 hi ⟨s8, es, e8, el, ek⟩
      obtain ⟨r, rfl, il, mr, hr2⟩ := l.get hi
      refine ⟨rfl, yes_if ?_⟩
      have hr8 := s8 _ _ (s27 _ _ hr2)
      have sqr : SqL K H8 r (natV (lotL t i)) := .inl (.inl hr8)
      have bl := bits_len t.steps.length (lotM t i)
      refine ⟨_, rfl, r, rfl, ⟨_, sqr⟩, fun G hG => ?_⟩
      refine lc_list (K := K) (a := r) (xs := natV (lotL t i)) (fun j H' => Same H8 H' ∧ H' G = some (.lst (blV (((lotL t i).take j).map fun s => t.ends.getD s false)))) ⟨same_new' hG, upd_same⟩ (fun j H' _ e => e.1.seq sqr) ?_ ?_
      · rintro j v H9 hj ⟨s9, e9⟩
        obtain ⟨c, hc, rfl⟩ := nat_get hj
        have cm := lotL_lt (List.mem_of_getElem? hc)
        have jl : j < (bitsN t.steps.length (lotM t i)).length := (List.getElem?_eq_some_iff.mp hc).1
        have s79 := s8.trans s9
        refine ⟨rfl, yes_if ?_⟩
        refine ⟨_, rfl, xa, _, 2, _, rfl, rfl, .inl (.inl (s79 _ _ ha)), rfl, _, rfl, xc, _, (c : Int), _, rfl, rfl, .inl (.inl (s79 _ _ hcc)), atI_nat (ends_at sm.good cm), ?_⟩
        refine ⟨_, e9, by rw [List.length_map, List.length_map, List.length_take]; exact small1000 (by omega), fun c' o hc' => ?_, ?_⟩
        · rw [upd_ne (ne_of_none hc' hG)]
          exact s9 c' o hc'
        · rw [upd_same, List.take_add_one, hc, List.map_append]
          unfold blV
          rw [List.map_append]
          rfl
      · rintro H9 ⟨s9, e9⟩
        rw [natV_len, List.take_length] at e9
        have nFG : F ≠ G := ne_of_none e8 hG
        refine ⟨_, s9 _ _ e8, by rw [List.length_map, el]; exact small1000 (by omega), fun c o hc => ?_, es ++ [G], by rw [upd_same, List.map_append]; rfl, by rw [List.length_append, el]; rfl, fun j r' hj => ?_⟩
        · rw [upd_ne (ne_of_none hc hF)]
          exact s9 _ _ (s8 c o hc)
        · by_cases hj2 : j < es.length
          · rw [List.getElem?_append_left hj2] at hj
            obtain ⟨k1, k2⟩ := ek j r' hj
            exact ⟨k1, by rw [upd_ne k1]; exact s9 _ _ k2⟩
          · have hj3 : j = i := by
              have := (List.getElem?_eq_some_iff.mp hj).1
              rw [List.length_append, el] at this
              have : j < i + 1 := this
              omega
            subst hj3
            rw [List.getElem?_append_right (by omega), el, Nat.sub_self] at hj
            have hj : G = r' := Option.some.inj hj
            rw [← hj]
            exact ⟨nFG.symm, by rw [upd_ne nFG.symm]; exact e9⟩
    rintro H8 ⟨s8, es, e8, el, ek⟩
    rw [List.length_map, ll] at el
    have s28 := s27.trans s8
    dsimp only [gName]
    have at_ : ∀ {i : Nat} {v : V}, (es.map V.ref)[i]? = some v → ∃ r, v = .ref r ∧ i < n ∧ H8 r = some (.lst (blV (endsL t i))) := fun {i v} hi => by
      rw [List.getElem?_map] at hi
      obtain ⟨r, hr3, rfl⟩ := Option.map_eq_some_iff.mp hi
      exact ⟨r, rfl, by have := (List.getElem?_eq_some_iff.mp hr3).1; omega, (ek i r hr3).2⟩
    have sqF : SqL K H8 F (es.map V.ref) := .inl (.inl e8)
    have el2 : (es.map V.ref).length = n := by rw [List.length_map, el]
    clear ek
    refine ⟨_, rfl, F, rfl, ⟨_, sqF⟩, fun D1 hD1 => ?_⟩
    refine lc_list (K := K) (a := F) (xs := es.map V.ref) (fun i H' => Same H8 H' ∧ H' D1 = some (.lst (blV (metsL t i true)))) ⟨same_new' hD1, upd_same⟩ (fun i H' _ e => e.1.seq sqF) ?_ ?_
    · rintro i v H9 hi ⟨s9, e9⟩
      obtain ⟨r, rfl, il, hr3⟩ := at_ hi
      refine ⟨rfl, yes_if ?_⟩
      refine ⟨_, rfl, r, _, rfl, .inl (.inl (.inl (s9 _ _ hr3))), rfl, flat_bls _, ?_⟩
      show ∃ acc, _ ∧ _ ∧ Same H8 (upd H9 D1 (.lst (acc ++ [V.bl (inV (.bl true) (blV (endsL t i)))]))) ∧ (upd H9 D1 (.lst (acc ++ [V.bl (inV (.bl true) (blV (endsL t i)))]))) D1 = _
      rw [in_bls, ends_any]
      refine ⟨_, e9, by rw [List.length_map, mets_len]; exact small1000 (by omega), fun c o hc => ?_, ?_⟩
      · rw [upd_ne (ne_of_none hc hD1)]
        exact s9 c o hc
      · rw [upd_same]
        unfold metsL blV
        rw [List.range_succ, List.map_append, List.map_append]
        rfl
    rintro H9 ⟨s9, e9⟩
    rw [el2] at e9
    have sqF9 := s9.seq sqF
    refine ⟨_, rfl, F, rfl, ⟨_, sqF9⟩, fun D2 hD2 => ?_⟩
    refine lc_list (K := K) (a := F) (xs := es.map V.ref) (fun i H' => Same H9 H' ∧ H' D2 = some (.lst (blV (metsL t i false)))) ⟨same_new' hD2, upd_same⟩ (fun i H' _ e => e.1.seq sqF9) ?_ ?_
    · rintro i v HA hi ⟨sA, eA⟩
      obtain ⟨r, rfl, il, hr3⟩ := at_ hi
      refine ⟨rfl, yes_if ?_⟩
      refine ⟨_, rfl, r, _, rfl, .inl (.inl (.inl (sA _ _ (s9 _ _ hr3)))), rfl, flat_bls _, ?_⟩
      show ∃ acc, _ ∧ _ ∧ Same H9 (upd HA D2 (.lst (acc ++ [V.bl (!inV (.bl false) (blV (endsL t i)))]))) ∧ (upd HA D2 (.lst (acc ++ [V.bl (!inV (.bl false) (blV (endsL t i)))]))) D2 = _
      rw [notin_bls, ends_all]
      refine ⟨_, eA, by rw [List.length_map, mets_len]; exact small1000 (by omega), fun c o hc => ?_, ?_⟩
      · rw [upd_ne (ne_of_none hc hD2)]
        exact sA c o hc
      · rw [upd_same]
        unfold metsL blV
        rw [List.range_succ, List.map_append, List.map_append]
        rfl
    rintro HA ⟨sA, eA⟩
    rw [el2] at eA
    have e9A := sA _ _ e9
    have s2A := s28.trans (s9.trans sA)
    refine ⟨_, _, rfl, ?_⟩
    clear at_ sqF sqF9 e8 el el2 hrow hb ha hcc hyl dx7 sqL7
    have dxA : Dt HA (.ref xa) t.d := dx.to (l.same.trans s2A)
    refine ⟨_, rfl, a, _, 0, _, rfl, rfl, .inl (.inl (s2A _ _ l.tup)), rfl, p1, _, rfl, .inl (.inl (.inl (s2A _ _ l.l1))), ?_⟩
    dsimp only [gName]
    rw [List.length_map, l.n1]
    have wn := fun e => wid_nice (t := t) (b := b) (e := e) n64
    have ml := fun e => mets_len t n e
    have okW : ∀ {e : Bool} {u v tp : Addr} {H' : Hp}, H' tp = some (.tup [.ref u, .ref v]) → H' u = some (.lst (blV ((metsL t n e).take b))) → H' v = some (.lst (blV ((metsL t n e).drop b))) → WdOk H' (.ref tp) ((metsL t n e).take b) ((metsL t n e).drop b) := fun {e u v tp H'} h1 h2 h3 =>
      ⟨.wd_of h1 h2 h3, by rw [List.length_drop, ml]; omega, by rw [List.length_take, ml]; omega, by rw [List.length_drop, ml]; omega⟩
    -- the widths at which some row is taken
    refine ⟨_, rfl, rfl, .ref xa, t, rfl, dxA, tn, sm, fun n' b' v HB orb' sB dv => ?_⟩
    obtain ⟨e1, e2⟩ := orb'.eq l.orb
    subst e1 e2
    refine ⟨v, _, rfl, dv, (wn true).shows, _, rfl, _, rfl, _, rfl, D1, _, rfl, .inl (.inl (sB _ _ e9A)), fun u1 hu1 => ?_⟩
    rw [cut_to]
    have sC := same_new' (o := .lst (blV ((metsL t n' true).take b'))) hu1
    have eC : (upd HB u1 (.lst (blV ((metsL t n' true).take b')))) u1 = some (.lst (blV ((metsL t n' true).take b'))) := upd_same
    revert sC eC
    generalize (upd HB u1 (.lst (blV ((metsL t n' true).take b')))) = HC
    intro sC eC
    refine ⟨_, rfl, _, rfl, _, rfl, D1, _, rfl, .inl (.inl (sC _ _ (sB _ _ e9A))), fun u2 hu2 => ?_⟩
    rw [cut_from _ (by rw [ml]; omega)]
    have sD := same_new' (o := .lst (blV ((metsL t n' true).drop b'))) hu2
    have eD : (upd HC u2 (.lst (blV ((metsL t n' true).drop b')))) u2 = some (.lst (blV ((metsL t n' true).drop b'))) := upd_same
    revert sD eD
    generalize (upd HC u2 (.lst (blV ((metsL t n' true).drop b')))) = HD'
    intro sD eD
    refine ⟨le1 (by show 2 ≤ 10000; decide), fun tp htp => ?_⟩
    have sE := same_new' (o := .tup [.ref u1, .ref u2]) htp
    refine ⟨.ref tp, _, _, rfl, okW (e := true) upd_same (sE _ _ (sD _ _ eC)) (sE _ _ eD), fun v2 HF' sF dv2 => ?_⟩
    refine ⟨v2, _, rfl, dv2, (wn true).shows, rfl, _, rfl, ?_⟩
    rw [show PyData.shown (widD t n' b' true) = PyData.shown (wdD (plainF ((metsL t n' true).take b') ((metsL t n' true).drop b')).1 (plainF ((metsL t n' true).take b') ((metsL t n' true).drop b')).2) from rfl, veq]
    refine iteF ?_
    have sAF := sB.trans (sC.trans (sD.trans (sE.trans sF)))
    have s2F := s2A.trans sAF
    have eAF := sAF _ _ eA
    clear sB dv sC eC sD eD sE sF dv2 e9A e9
    -- .. all rows
    refine ⟨_, rfl, rfl, .ref xa, t, rfl, dxA.to sAF, tn, sm, fun n2 b2 v HB orb2 sB dv => ?_⟩
    obtain ⟨e1, e2⟩ := orb2.eq l.orb
    subst e1 e2
    refine ⟨v, _, rfl, dv, (wn false).shows, _, rfl, _, rfl, _, rfl, D2, _, rfl, .inl (.inl (sB _ _ eAF)), fun u1 hu1 => ?_⟩
    rw [cut_to]
    have sC := same_new' (o := .lst (blV ((metsL t n2 false).take b2))) hu1
    have eC : (upd HB u1 (.lst (blV ((metsL t n2 false).take b2)))) u1 = some (.lst (blV ((metsL t n2 false).take b2))) := upd_same
    revert sC eC
    generalize (upd HB u1 (.lst (blV ((metsL t n2 false).take b2)))) = HC
    intro sC eC
    refine ⟨_, rfl, _, rfl, _, rfl, D2, _, rfl, .inl (.inl (sC _ _ (sB _ _ eAF))), fun u2 hu2 => ?_⟩
    rw [cut_from _ (by rw [ml]; omega)]
    have sD := same_new' (o := .lst (blV ((metsL t n2 false).drop b2))) hu2
    have eD : (upd HC u2 (.lst (blV ((metsL t n2 false).drop b2)))) u2 = some (.lst (blV ((metsL t n2 false).drop b2))) := upd_same
    revert sD eD
    generalize (upd HC u2 (.lst (blV ((metsL t n2 false).drop b2)))) = HD2
    intro sD eD
    refine ⟨le1 (by show 2 ≤ 10000; decide), fun tp htp => ?_⟩
    have sE := same_new' (o := .tup [.ref u1, .ref u2]) htp
    refine ⟨.ref tp, _, _, rfl, okW (e := false) upd_same (sE _ _ (sD _ _ eC)) (sE _ _ eD), fun v2 HG sG dv2 => ?_⟩
    refine ⟨v2, _, rfl, dv2, (wn false).shows, rfl, _, rfl, ?_⟩
    rw [show PyData.shown (widD t n2 b2 false) = PyData.shown (wdD (plainF ((metsL t n2 false).take b2) ((metsL t n2 false).drop b2)).1 (plainF ((metsL t n2 false).take b2) ((metsL t n2 false).drop b2)).2) from rfl, veq]
    refine iteF ?_
    have sFG := sB.trans (sC.trans (sD.trans (sE.trans sG)))
    have s2G := s2F.trans sFG
    have eLG : HG L = some (.lst ((q1 ++ q2).map V.ref)) := sFG _ _ (sAF _ _ (sA _ _ (s9 _ _ (s8 _ _ eL7))))
    clear sB dv sC eC sD eD sE sG dv2 eAF eA sFG sAF s9 sA s8 s7
    -- longer
    refine ⟨_, rfl, _, rfl, a, _, 1, _, rfl, rfl, .inl (.inl (s2G _ _ l.tup)), rfl, p2, _, _, rfl, rfl, s2G _ _ l.l2, by decide, by decide, le1 (by rw [List.length_map, l.n2]; show (n2 - b2) * 6 ≤ 10000; omega), fun R hR => ?_⟩
    have sR := same_new' (o := .lst (List.replicate (6 : Int).toNat (q2.map V.ref)).flatten) hR
    have eR : (upd HG R (.lst (List.replicate (6 : Int).toNat (q2.map V.ref)).flatten)) R = some (.lst ((List.replicate 6 q2).flatten.map V.ref)) := by
      rw [upd_same]
      show some (HO.lst (List.replicate 6 (q2.map V.ref)).flatten) = _
      rw [List.map_flatten, List.map_replicate]
    revert sR eR
    generalize (upd HG R (.lst (List.replicate (6 : Int).toNat (q2.map V.ref)).flatten)) = HR
    intro sR eR
    have rl : ((List.replicate 6 q2).flatten).length = 6 * (n2 - b2) := by rw [List.length_flatten, List.map_replicate, List.sum_replicate_nat, l.n2]
    refine ⟨L, R, _, _, rfl, rfl, sR _ _ eLG, eR, le1 (by rw [List.length_map, List.length_map, ll, rl]; omega), fun M hM => ?_⟩
    rw [← List.map_append]
    have sM := same_new' (o := .lst (((q1 ++ q2) ++ (List.replicate 6 q2).flatten).map V.ref)) hM
    have eM : (upd HR M (.lst (((q1 ++ q2) ++ (List.replicate 6 q2).flatten).map V.ref))) M = some (.lst (((q1 ++ q2) ++ (List.replicate 6 q2).flatten).map V.ref)) := upd_same
    revert sM eM
    generalize (upd HR M (.lst (((q1 ++ q2) ++ (List.replicate 6 q2).flatten).map V.ref))) = HM
    intro sM eM
    have s2M := s2G.trans (sR.trans sM)
    dsimp only [gName]
    refine ⟨_, rfl, _, rfl, 6, rfl, M, _, rfl, .inl (.inl eM), fun u hu => ?_⟩
    rw [show (6 : Int) = ((6 : Nat) : Int) from rfl, cutR_to]
    have sU := same_new' (o := .lst ((((q1 ++ q2) ++ (List.replicate 6 q2).flatten).take 6).map V.ref)) hu
    refine ⟨.ref xa, t, u, _, rfl, dx.to (l.same.trans (s2M.trans sU)), sm, upd_same, fun i hi => ?_, fun HN sN => ⟨true, rfl, iteF ?_⟩⟩
    · obtain ⟨r, h1, h2⟩ := l.more (i := i) (by omega)
      exact ⟨r, by rw [List.getElem?_take_of_lt hi]; exact h1, sU _ _ (s2M _ _ h2)⟩
    have s2N := s2M.trans (sU.trans sN)
    have eLN : HN L = some (.lst ((q1 ++ q2).map V.ref)) := sN _ _ (sU _ _ (sM _ _ (sR _ _ eLG)))
    clear sU sN sM eM sR eR s2M s2G eLG
    refine ⟨_, rfl, .ref a, _, rfl, dt.to s2N, toldn.shows, ?_⟩
    -- told lists are changed
    have sqLN : SqL K HN L ((q1 ++ q2).map V.ref) := .inl (.inl eLN)
    have s1N := l.same.trans s2N
    dsimp only [gName]
    refine ⟨_, rfl, L, rfl, ⟨_, sqLN⟩, ?_⟩
    have rL : ∀ r ∈ q1 ++ q2, r ≠ L := fun r hr2 => ne_of_none (l.new r hr2).2.1 nL2
    have ra : ∀ r ∈ q1 ++ q2, r ≠ a := fun r hr2 z => by
      have := (l.new r hr2).2.1
      unfold LotAt at this
      rw [z, l.tup] at this
      cases this
    have pa : p1 ≠ a := fun z => by have := l.l1; rw [z, l.tup] at this; cases this
    refine for_list (K := K) (a := L) (xs := (q1 ++ q2).map V.ref) (fun i σ H' => (∃ z6 : Option V, σ = [some (.ref g), some (.ref xa), some (.str t.d.shown), some (.ref a), some (.ref L), some (.ref y), z6, some (.ref F), some (.ref D1), some (.ref D2), some (.int (b2 : Int)), some (.ref M), some (.str (toldD t n2 b2).shown), none]) ∧ Same H1 H' ∧ H' L = some (.lst ((q1 ++ q2).map V.ref)) ∧ H' a = some (.tup [.ref p1, .ref p2]) ∧ H' p1 = some (.lst (q1.map V.ref)) ∧ ∀ r ∈ q1 ++ q2, ∃ xs, H' r = some (.lst xs) ∧ xs.length ≤ 100 + i)
      ⟨⟨_, rfl⟩, s1N, eLN, s2N _ _ l.tup, s2N _ _ l.l1, fun r hr2 => ?_⟩ (fun i σ H' _ e => .inl (.inl e.2.2.1)) ?_ ?_
    · obtain ⟨i, il, e⟩ := List.mem_iff_getElem.mp hr2
      obtain ⟨r', h1, h2, h3, h4⟩ := l.get (i := i) (x := .ref r) (by rw [List.getElem?_map, List.getElem?_eq_getElem il, e]; rfl)
      cases h1
      exact ⟨_, s2N _ _ h4, by rw [natV_len]; have := bits_len t.steps.length (lotM t i); show (bitsN t.steps.length (lotM t i)).length ≤ _; omega⟩
    · rintro i v σ H7 hi ⟨⟨z7, rfl⟩, k1, k2, k3, k4, k5⟩
      rw [List.getElem?_map] at hi
      obtain ⟨r, hr2, rfl⟩ := Option.map_eq_some_iff.mp hi
      have mr := List.mem_of_getElem? hr2
      have il := (List.getElem?_eq_some_iff.mp hr2).1
      obtain ⟨xs, hx, lx⟩ := k5 r mr
      refine ⟨_, rfl, .inl ⟨rfl, _, .inl (.inl hx)⟩, r, xs, _, rfl, rfl, hx, by rw [sizeLine_eq]; omega, ⟨_, rfl⟩, fun c o hc => ?_, ?_, ?_, ?_, fun r' hr' => ?_⟩
      · rw [upd_ne (ne_of_none hc (l.new r mr).1)]; exact k1 _ _ hc
      · rw [upd_ne (rL r mr).symm]; exact k2
      · rw [upd_ne (ra r mr).symm]; exact k3
      · rw [upd_ne ((l.new r mr).2.2.1).symm]; exact k4
      · by_cases z : r' = r
        · rw [z, upd_same]
          exact ⟨_, rfl, by rw [List.length_append]; show xs.length + 1 ≤ _; omega⟩
        · obtain ⟨xs', h1, h2⟩ := k5 r' hr'
          rw [upd_ne z]
          exact ⟨xs', h1, by omega⟩
    rintro σ H7 ⟨⟨z7, rfl⟩, k1, k2, k3, k4, k5⟩
    refine ⟨_, rfl, a, _, 0, _, rfl, rfl, .inl (.inl k3), rfl, .inl ⟨rfl, _, .inl (.inl k4)⟩, Nat.zero_le _, fun u hu => ?_⟩
    have sU := same_new' (o := .lst []) hu
    refine ⟨p1, _, _, rfl, rfl, sU _ _ k4, by rw [List.length_map, l.n1, sizeLine_eq]; omega, ?_⟩
    have s8 : Same H1 (upd (upd H7 u (.lst [])) p1 (.lst (q1.map V.ref ++ [.ref u]))) := fun c o hc => by
      rw [upd_ne (ne_of_none hc l.newp)]
      exact sU _ _ (k1 _ _ hc)
    revert s8
    generalize (upd (upd H7 u (.lst [])) p1 (.lst (q1.map V.ref ++ [.ref u]))) = H8'
    intro s8
    refine ⟨_, rfl, rfl, .ref xa, t, rfl, dx.to s8, tn, sm, fun n3 b3 a3 p3 p4 q3 q4 H9' l3 => ?_⟩
    obtain ⟨e1, e2⟩ := l3.orb.eq l.orb
    subst e1 e2
    refine ⟨_, _, rfl, l3.dt.1, toldn.shows, _, rfl, rfl, _, rfl, ?_⟩
    rw [veq]
    refine iteT ⟨_, rfl, _, _, rfl, dx.to (s8.trans l3.same), tn.shows, _, rfl, rfl, ?_⟩
    rw [veq]
    exact q _ (x1.trans (SameX.of (s8.trans l3.same)))

end

end K43

set_option Elab.async false
set_option linter.all false
set_option maxRecDepth 100000
set_option maxHeartbeats 4000000
namespace K43
open PySem PySem.Spec PyProof.Rows L2 Hw
section
variable {P : Program} {w : World} {K : PySem.W.Frag} {mg : Str → Option Value} {base : Heap}

section
variable {te : TE} {ta : TA} {σ : L2.St} {H : Hp} {Q : VK} {QA : List V → Hp → Prop} {sp : Sp} {E : XK}
theorem consC (h : te σ H fun x H1 => ta σ H1 fun xs H2 => QA (x :: xs) H2) : tCons te ta σ H QA := h
theorem oneL (h : te σ H fun x H1 => QA [x] H1) : tCons te tNil σ H QA := h
theorem cbL {rb : List V → Hp → VK → Prop} (h : ta σ H fun vs H1 => rb vs H1 Q) : tCB rb ta σ H Q := h
theorem callT (h : te σ H fun x H1 => sp [x] H1 Q E) : tCall sp [] E (tCons te tNil) σ H Q := h
end
def tb1 : Tb := ⟨1, [[1, 1], [0, 2], [2, 2]], [true, false, false]⟩
theorem sm1 : Sm tb1 := ⟨⟨by decide, by decide, by decide, by decide, by decide⟩, by decide, by decide⟩
theorem orb1 : Orb tb1 4 2 := ⟨by decide, by decide +kernel, fun i j h1 h2 => by
  have : ∀ j, j < 4 → ∀ i, i < j → lotM tb1 i ≠ lotM tb1 j := by decide +kernel
  exact this j h2 i h1⟩
theorem told1 : toldD tb1 4 2 = .tuple [.list [.list [.int 0], .list [.int 1]], .list [.list [.int 0, .int 2], .list [.int 1, .int 2]]] := by kernel_rfl
theorem shw1 : Shows (.tuple [.list [.list [.int 0], .list [.int 1]], .list [.list [.int 0, .int 2], .list [.int 1, .int 2]]] : PyData) := Nice.shows (Bnd.nice (k := 4) (b := 200) ⟨by decide +kernel, by decide +kernel, by decide +kernel⟩ (by decide) (by decide))
def tb2 : Tb := ⟨0, [[1], [2], [1]], [true, false, true]⟩
theorem sm2 : Sm tb2 := ⟨⟨by decide, by decide, by decide, by decide, by decide⟩, by decide, by decide⟩
theorem orb2 : Orb tb2 3 1 := ⟨by decide, by decide +kernel, fun i j h1 h2 => by
  have : ∀ j, j < 3 → ∀ i, i < j → lotM tb2 i ≠ lotM tb2 j := by decide +kernel
  exact this j h2 i h1⟩
theorem told2 : toldD tb2 3 1 = .tuple [.list [.list [.int 0]], .list [.list [.int 1], .list [.int 2]]] := by kernel_rfl
theorem shw2 : Shows (.tuple [.list [.list [.int 0]], .list [.list [.int 1], .list [.int 2]]] : PyData) := Nice.shows (Bnd.nice (k := 4) (b := 200) ⟨by decide +kernel, by decide +kernel, by decide +kernel⟩ (by decide) (by decide))
def tb3 : Tb := ⟨0, [[0]], [false]⟩
theorem sm3 : Sm tb3 := ⟨⟨by decide, by decide, by decide, by decide, by decide⟩, by decide, by decide⟩
theorem orb3 : Orb tb3 1 0 := ⟨by decide, by decide +kernel, fun i j h1 h2 => by
  have : ∀ j, j < 1 → ∀ i, i < j → lotM tb3 i ≠ lotM tb3 j := by decide +kernel
  exact this j h2 i h1⟩
theorem wid2 : widD tb2 3 1 true = .tuple [.list [], .list [.bool true, .bool false]] := by kernel_rfl
theorem wid3 : widD tb3 1 0 false = .tuple [.list [], .list [.bool false]] := by kernel_rfl
theorem shwW : Shows (.list [.tuple [.list [], .list [.bool true, .bool false]], .tuple [.list [], .list [.bool false]]] : PyData) := Nice.shows (Bnd.nice (k := 4) (b := 200) ⟨by decide +kernel, by decide +kernel, by decide +kernel⟩ (by decide) (by decide))
def spLaw (K : PySem.W.Frag) : Sp := fun vs H Q _ => ∃ (a : Addr) (ns : List Int), vs = [.ref a] ∧ ns.length ≤ 63 ∧ SqL K H a (ns.map V.int) ∧ ∀ H' : Hp, Q (.bl true) H'
theorem ok_law (T : Tx K mg) : FnG P w K mg base CX0 9 T.a_law T.d_law ["_law_script"] (spLaw K) := by
  have G_law_generator := ok_law_generator (P := P) (w := w) (base := base) T
  have G_law_right := ok_law_right (P := P) (w := w) (base := base) T
  have G_lots_reached := ok_lots_reached (P := P) (w := w) (base := base) T
  have G_taken_widths := ok_taken_widths (P := P) (w := w) (base := base) T
  have G_full_widths := ok_full_widths (P := P) (w := w) (base := base) T
  refine bodyG0 T.F_law sc_law (fun vs H Q E h => ?_) (fun cdv A outer s H vs Q E gd hr h => ?_)
  · obtain ⟨a, ns, rfl, _⟩ := h; rfl
  · obtain ⟨a, ns, rfl, _, hS, q⟩ := h
    refine ⟨_, (pss_cons (ps_for PassesOwn.never rfl (pi_range1 (by rfl) T.z_range (pa_cons pe_int pa_nil)) (pg_name (i := 1) sc_law.nd rfl (Or.inl rfl)) (pss_one (ps_if (pt_not (pt_val (pe_g G_law_right gd (hr.mono (by decide)) (by rfl) T.g_law_right T.F_law_right.kp T.b_law_right .nil pass0 (pa_cons (pe_g G_law_generator gd (hr.mono (by decide)) (by rfl) T.g_law_generator T.F_law_generator.kp T.b_law_generator .nil pass0 (pa_cons (pv 0) (pa_cons (pv 1) pa_nil))) pa_nil)))) (pss_one (ps_ret pe_bl)) pss_nil)))
      (pss_cons (ps_set (i := 2) sc_law.nd rfl (Or.inl rfl) (pe_g G_lots_reached gd (hr.mono (by decide)) (by rfl) T.g_lots_reached T.F_lots_reached.kp T.b_lots_reached .nil pass0 (pa_cons (pe_tup (pa_cons pe_int (pa_cons (pe_lst (pa_cons (pe_lst (pa_cons pe_int (pa_cons pe_int pa_nil))) (pa_cons (pe_lst (pa_cons pe_int (pa_cons pe_int pa_nil))) (pa_cons (pe_lst (pa_cons pe_int (pa_cons pe_int pa_nil))) pa_nil)))) (pa_cons (pe_lst (pa_cons pe_bl (pa_cons pe_bl (pa_cons pe_bl pa_nil)))) pa_nil)))) pa_nil)))
      (pss_cons (ps_set (i := 3) sc_law.nd rfl (Or.inl rfl) (pe_tup (pa_cons pe_int (pa_cons (pe_lst (pa_cons (pe_lst (pa_cons pe_int pa_nil)) (pa_cons (pe_lst (pa_cons pe_int pa_nil)) (pa_cons (pe_lst (pa_cons pe_int pa_nil)) pa_nil)))) (pa_cons (pe_lst (pa_cons pe_bl (pa_cons pe_bl (pa_cons pe_bl pa_nil)))) pa_nil)))))
      (pss_cons (ps_if (PW.pt (pw_or (pt_cmpR op_ne (pe_callB (call_reprT gd hr.units) (by rfl) T.z_repr (by decide +kernel) (pa_cons (pv 2) pa_nil)) (pe_callB (call_reprT gd hr.units) (by rfl) T.z_repr (by decide +kernel) (pa_cons (pe_tup (pa_cons (pe_lst (pa_cons (pe_lst (pa_cons pe_int pa_nil)) (pa_cons (pe_lst (pa_cons pe_int pa_nil)) pa_nil))) (pa_cons (pe_lst (pa_cons (pe_lst (pa_cons pe_int (pa_cons pe_int pa_nil))) (pa_cons (pe_lst (pa_cons pe_int (pa_cons pe_int pa_nil))) pa_nil))) pa_nil))) pa_nil)) (nomark _)) (pw_or1 (pt_cmpR op_ne (pe_callB (call_reprT gd hr.units) (by rfl) T.z_repr (by decide +kernel) (pa_cons (pe_g G_lots_reached gd (hr.mono (by decide)) (by rfl) T.g_lots_reached T.F_lots_reached.kp T.b_lots_reached .nil pass0 (pa_cons (pv 3) pa_nil)) pa_nil)) (pe_callB (call_reprT gd hr.units) (by rfl) T.z_repr (by decide +kernel) (pa_cons (pe_tup (pa_cons (pe_lst (pa_cons (pe_lst (pa_cons pe_int pa_nil)) pa_nil)) (pa_cons (pe_lst (pa_cons (pe_lst (pa_cons pe_int pa_nil)) (pa_cons (pe_lst (pa_cons pe_int pa_nil)) pa_nil))) pa_nil))) pa_nil)) (nomark _))))) (pss_one (ps_ret pe_bl)) pss_nil)
      (pss_one (ps_ret (pe_cmpR op_eq (pe_callB (call_reprT gd hr.units) (by rfl) T.z_repr (by decide +kernel) (pa_cons (pe_lst (pa_cons (pe_g G_taken_widths gd (hr.mono (by decide)) (by rfl) T.g_taken_widths T.F_taken_widths.kp T.b_taken_widths .nil pass0 (pa_cons (pv 3) pa_nil)) (pa_cons (pe_g G_full_widths gd (hr.mono (by decide)) (by rfl) T.g_full_widths T.F_full_widths.kp T.b_full_widths .nil pass0 (pa_cons (pe_tup (pa_cons pe_int (pa_cons (pe_lst (pa_cons (pe_lst (pa_cons pe_int pa_nil)) pa_nil)) (pa_cons (pe_lst (pa_cons pe_bl pa_nil)) pa_nil)))) pa_nil)) pa_nil))) pa_nil)) (pe_callB (call_reprT gd hr.units) (by rfl) T.z_repr (by decide +kernel) (pa_cons (pe_lst (pa_cons (pe_tup (pa_cons (pe_lst pa_nil) (pa_cons (pe_lst (pa_cons pe_bl (pa_cons pe_bl pa_nil))) pa_nil))) (pa_cons (pe_tup (pa_cons (pe_lst pa_nil) (pa_cons (pe_lst (pa_cons pe_bl pa_nil)) pa_nil))) pa_nil))) pa_nil)) (nomark _)))))))), ?_⟩
    have le1 : ∀ {n : Nat}, n ≤ 1000 → n ≤ sizeLine := fun {n} h => by rw [sizeLine_eq]; omega
    refine ⟨2, rfl, by decide, by decide, for_range (n := 2) (fun i σ H' => ∃ y : Option V, σ = [some (.ref a), y, none, none] ∧ SqL K H' a (ns.map V.int)) ⟨none, rfl, hS⟩ ?_ ?_⟩
    · rintro i σ H1 hi ⟨y, rfl, s1⟩
      refine ⟨_, rfl, _, rfl, a, ns, i, by rw [Int.zero_add]; rfl, by omega, s1, fun g H2 s t c e2 ng g2 go => ?_⟩
      refine ⟨g, t, _, rfl, ⟨s, c, g2, go⟩, by omega, fun H3 x3 => ⟨true, rfl, iteF ⟨_, rfl, (x3.same e2 ng).seq s1⟩⟩⟩
    · rintro σ H0 ⟨y, rfl, s1⟩
      clear s1
      dsimp only
      refine seqL (setL (callT (((Ev.etup (Eva.econs (Ev.eint 1) (Eva.econs (Ev.elst (Eva.econs (Ev.elst (Eva.econs (Ev.eint 1) (Eva.econs (Ev.eint 1) Eva.enil))) (Eva.econs (Ev.elst (Eva.econs (Ev.eint 0) (Eva.econs (Ev.eint 2) Eva.enil))) (Eva.econs (Ev.elst (Eva.econs (Ev.eint 2) (Eva.econs (Ev.eint 2) Eva.enil))) Eva.enil)))) (Eva.econs (Ev.elst (Eva.econs (Ev.ebl true) (Eva.econs (Ev.ebl false) (Eva.econs (Ev.ebl false) Eva.enil)))) Eva.enil)))) : Ev Tr (Ed (.tuple [.int 1, .list [.list [.int 1, .int 1], .list [.int 0, .int 2], .list [.int 2, .int 2]], .list [.bool true, .bool false, .bool false]])) _ [some (.ref a), y, none, none]) H0 _ trivial ?_)))
      rintro z1 J1 e1 d1
      refine ⟨z1, tb1, rfl, d1, tab_nice sm1, sm1, fun n b a1 p1 p2 q1 q2 H1 l => ?_⟩
      obtain ⟨rfl, rfl⟩ := l.orb.eq orb1
      have w1 := l.dt.1
      rw [told1] at w1
      clear l
      dsimp only
      refine seqL (setL (((Ev.etup (Eva.econs (Ev.eint 0) (Eva.econs (Ev.elst (Eva.econs (Ev.elst (Eva.econs (Ev.eint 1) Eva.enil)) (Eva.econs (Ev.elst (Eva.econs (Ev.eint 2) Eva.enil)) (Eva.econs (Ev.elst (Eva.econs (Ev.eint 1) Eva.enil)) Eva.enil)))) (Eva.econs (Ev.elst (Eva.econs (Ev.ebl true) (Eva.econs (Ev.ebl false) (Eva.econs (Ev.ebl true) Eva.enil)))) Eva.enil)))) : Ev Tr (Ed (.tuple [.int 0, .list [.list [.int 1], .list [.int 2], .list [.int 1]], .list [.bool true, .bool false, .bool true]])) _ [some (.ref a), y, some (.ref a1), none]) H1 _ trivial ?_))
      rintro z2 H2 e2 d2
      have w1 := w1.to e2
      refine ⟨_, rfl, .ref a1, _, rfl, w1, shw1, cbL (oneL (((Ev.etup (Eva.econs (Ev.elst (Eva.econs (Ev.elst (Eva.econs (Ev.eint 0) Eva.enil)) (Eva.econs (Ev.elst (Eva.econs (Ev.eint 1) Eva.enil)) Eva.enil))) (Eva.econs (Ev.elst (Eva.econs (Ev.elst (Eva.econs (Ev.eint 0) (Eva.econs (Ev.eint 2) Eva.enil))) (Eva.econs (Ev.elst (Eva.econs (Ev.eint 1) (Eva.econs (Ev.eint 2) Eva.enil))) Eva.enil))) Eva.enil))) : Ev Tr (Ed (.tuple [.list [.list [.int 0], .list [.int 1]], .list [.list [.int 0, .int 2], .list [.int 1, .int 2]]])) _ [some (.ref a), y, some (.ref a1), some z2]) H2 _ trivial ?_))⟩
      rintro x3 H3 e3 d3
      refine ⟨x3, _, rfl, d3, shw1, rfl, _, rfl, ?_⟩
      rw [veq]
      refine iteF ?_
      refine ⟨_, rfl, z2, tb2, rfl, d2.to e3, tab_nice sm2, sm2, fun n b a4 p1 p2 q1 q2 H4 l => ?_⟩
      obtain ⟨rfl, rfl⟩ := l.orb.eq orb2
      have w4 := l.dt.1
      rw [told2] at w4
      have s4 := l.same
      clear l
      refine ⟨.ref a4, _, rfl, w4, shw2, cbL (oneL (((Ev.etup (Eva.econs (Ev.elst (Eva.econs (Ev.elst (Eva.econs (Ev.eint 0) Eva.enil)) Eva.enil)) (Eva.econs (Ev.elst (Eva.econs (Ev.elst (Eva.econs (Ev.eint 1) Eva.enil)) (Eva.econs (Ev.elst (Eva.econs (Ev.eint 2) Eva.enil)) Eva.enil))) Eva.enil))) : Ev Tr (Ed (.tuple [.list [.list [.int 0]], .list [.list [.int 1], .list [.int 2]]])) _ [some (.ref a), y, some (.ref a1), some z2]) H4 _ trivial ?_))⟩
      rintro x5 H5 e5 d5
      refine ⟨x5, _, rfl, d5, shw2, rfl, _, rfl, ?_⟩
      rw [veq]
      refine iteF ?_
      have d25 := ((d2.to e3).to s4).to e5
      refine ⟨_, rfl, z2, tb2, rfl, d25, tab_nice sm2, sm2, fun n b v6 H6 o s6 d6 => ?_⟩
      obtain ⟨rfl, rfl⟩ := o.eq orb2
      rw [wid2] at d6
      refine consC (callT (((Ev.etup (Eva.econs (Ev.eint 0) (Eva.econs (Ev.elst (Eva.econs (Ev.elst (Eva.econs (Ev.eint 0) Eva.enil)) Eva.enil)) (Eva.econs (Ev.elst (Eva.econs (Ev.ebl false) Eva.enil)) Eva.enil)))) : Ev Tr (Ed (.tuple [.int 0, .list [.list [.int 0]], .list [.bool false]])) _ [some (.ref a), y, some (.ref a1), some z2]) H6 _ trivial ?_))
      rintro z7 J7 e7 d7
      refine ⟨z7, tb3, rfl, d7, tab_nice sm3, sm3, fun n b v8 H8 o s8 d8 => ?_⟩
      obtain ⟨rfl, rfl⟩ := o.eq orb3
      rw [wid3] at d8
      refine ⟨le1 (by show 2 ≤ 1000; decide), fun LT hL => ?_⟩
      have sL := same_new' (o := .lst [v6, v8]) hL
      refine ⟨.ref LT, _, rfl, .lst upd_same (.cons ((d6.to (e7.trans s8)).to sL) (.cons (d8.to sL) .nil)), shwW, cbL (oneL (((Ev.elst (Eva.econs (Ev.etup (Eva.econs (Ev.elst Eva.enil) (Eva.econs (Ev.elst (Eva.econs (Ev.ebl true) (Eva.econs (Ev.ebl false) Eva.enil))) Eva.enil))) (Eva.econs (Ev.etup (Eva.econs (Ev.elst Eva.enil) (Eva.econs (Ev.elst (Eva.econs (Ev.ebl false) Eva.enil)) Eva.enil))) Eva.enil))) : Ev Tr (Ed (.list [.tuple [.list [], .list [.bool true, .bool false]], .tuple [.list [], .list [.bool false]]])) _ [some (.ref a), y, some (.ref a1), some z2]) _ _ trivial ?_))⟩
      rintro x9 H9 e9 d9
      refine ⟨x9, _, rfl, d9, shwW, rfl, ?_⟩
      rw [veq]
      exact q _

end

end K43

set_option Elab.async false
set_option linter.all false
set_option maxRecDepth 100000
set_option maxHeartbeats 0
/-! ### the end -/
namespace K43E
open PySem PySem.Spec PyProof.Rows L2 Hw K43
def d_is_whole : He.DefD := ⟨("is_whole", none), "is_whole", "is_whole", defArgs s_is_whole, defBody s_is_whole, defScope s_is_whole, [], []⟩
def d_is_count_to : He.DefD := ⟨("is_count_to", none), "is_count_to", "is_count_to", defArgs s_is_count_to, defBody s_is_count_to, defScope s_is_count_to, [], []⟩
def d_is_table_form : He.DefD := ⟨("is_table_form", none), "is_table_form", "is_table_form", defArgs s_is_table_form, defBody s_is_table_form, defScope s_is_table_form, [], []⟩
def d_is_step : He.DefD := ⟨("is_step", none), "is_step", "is_step", defArgs s_is_step, defBody s_is_step, defScope s_is_step, [], []⟩
def d_mask_of : He.DefD := ⟨("mask_of", none), "mask_of", "mask_of", defArgs s_mask_of, defBody s_mask_of, defScope s_mask_of, [], []⟩
def d_stands_of : He.DefD := ⟨("stands_of", none), "stands_of", "stands_of", defArgs s_stands_of, defBody s_stands_of, defScope s_stands_of, [], []⟩
def d_masks_behind : He.DefD := ⟨("masks_behind", none), "masks_behind", "masks_behind", defArgs s_masks_behind, defBody s_masks_behind, defScope s_masks_behind, [], []⟩
def d_lot_behind : He.DefD := ⟨("lot_behind", none), "lot_behind", "lot_behind", defArgs s_lot_behind, defBody s_lot_behind, defScope s_lot_behind, [], []⟩
def d_lots_in_turn : He.DefD := ⟨("lots_in_turn", none), "lots_in_turn", "lots_in_turn", defArgs s_lots_in_turn, defBody s_lots_in_turn, defScope s_lots_in_turn, [], []⟩
def d_check_table : He.DefD := ⟨("check_table", none), "check_table", "check_table", defArgs s_check_table, defBody s_check_table, defScope s_check_table, [], []⟩
def d_made_plain : He.DefD := ⟨("made_plain", none), "made_plain", "made_plain", defArgs s_made_plain, defBody s_made_plain, defScope s_made_plain, [], []⟩
def d_shortest_turn : He.DefD := ⟨("shortest_turn", none), "shortest_turn", "shortest_turn", defArgs s_shortest_turn, defBody s_shortest_turn, defScope s_shortest_turn, [], []⟩
def d_lots_reached : He.DefD := ⟨("lots_reached", none), "lots_reached", "lots_reached", defArgs s_lots_reached, defBody s_lots_reached, defScope s_lots_reached, [], []⟩
def d_lots_of_table : He.DefD := ⟨("lots_of_table", none), "lots_of_table", "lots_of_table", defArgs s_lots_of_table, defBody s_lots_of_table, defScope s_lots_of_table, [], []⟩
def d_taken_widths : He.DefD := ⟨("taken_widths", none), "taken_widths", "taken_widths", defArgs s_taken_widths, defBody s_taken_widths, defScope s_taken_widths, [], []⟩
def d_full_widths : He.DefD := ⟨("full_widths", none), "full_widths", "full_widths", defArgs s_full_widths, defBody s_full_widths, defScope s_full_widths, [], []⟩
def d_widths_where : He.DefD := ⟨("widths_where", none), "widths_where", "widths_where", defArgs s_widths_where, defBody s_widths_where, defScope s_widths_where, [], []⟩
def d_is_met_lot : He.DefD := ⟨("is_met_lot", none), "is_met_lot", "is_met_lot", defArgs s_is_met_lot, defBody s_is_met_lot, defScope s_is_met_lot, [], []⟩
def d_law_hash : He.DefD := ⟨("_law_hash", none), "_law_hash", "_law_hash", defArgs s_law_hash, defBody s_law_hash, defScope s_law_hash, [], []⟩
def d_law_random : He.DefD := ⟨("_law_random", none), "_law_random", "_law_random", defArgs s_law_random, defBody s_law_random, defScope s_law_random, [], []⟩
def d_law_cell : He.DefD := ⟨("_law_cell", none), "_law_cell", "_law_cell", defArgs s_law_cell, defBody s_law_cell, defScope s_law_cell, [], []⟩
def d_law_generator : He.DefD := ⟨("_law_generator", none), "_law_generator", "_law_generator", defArgs s_law_generator, defBody s_law_generator, defScope s_law_generator, [], []⟩
def d_law_plain : He.DefD := ⟨("_law_plain", none), "_law_plain", "_law_plain", defArgs s_law_plain, defBody s_law_plain, defScope s_law_plain, [], []⟩
def d_law_table : He.DefD := ⟨("_law_table", none), "_law_table", "_law_table", defArgs s_law_table, defBody s_law_table, defScope s_law_table, [], []⟩
def d_law_next : He.DefD := ⟨("_law_next", none), "_law_next", "_law_next", defArgs s_law_next, defBody s_law_next, defScope s_law_next, [], []⟩
def d_law_rows_right : He.DefD := ⟨("_law_rows_right", none), "_law_rows_right", "_law_rows_right", defArgs s_law_rows_right, defBody s_law_rows_right, defScope s_law_rows_right, [], []⟩
def d_law_right : He.DefD := ⟨("_law_right", none), "_law_right", "_law_right", defArgs s_law_right, defBody s_law_right, defScope s_law_right, [], []⟩
def d_law : He.DefD := ⟨("law", none), "law", "law", defArgs s_law, defBody s_law, defScope s_law, [], []⟩
def fn : List He.DefD := [d_is_whole, d_is_count_to, d_is_table_form, d_is_step, d_mask_of, d_stands_of, d_masks_behind, d_lot_behind, d_lots_in_turn, d_check_table, d_made_plain, d_shortest_turn, d_lots_reached, d_lots_of_table, d_taken_widths, d_full_widths, d_widths_where, d_is_met_lot, d_law_hash, d_law_random, d_law_cell, d_law_generator, d_law_plain, d_law_table, d_law_next, d_law_rows_right, d_law_right, d_law]
def fa : List He.Fa := [.glo "is_whole", .glo "is_count_to", .glo "is_table_form", .glo "is_step", .glo "mask_of", .glo "stands_of", .glo "masks_behind", .glo "lot_behind", .glo "lots_in_turn", .glo "check_table", .glo "made_plain", .glo "shortest_turn", .glo "lots_reached", .glo "lots_of_table", .glo "taken_widths", .glo "full_widths", .glo "widths_where", .glo "is_met_lot", .glo "_law_hash", .glo "_law_random", .glo "_law_cell", .glo "_law_generator", .glo "_law_plain", .glo "_law_table", .glo "_law_next", .glo "_law_rows_right", .glo "_law_right", .glo "law", .free "all", .free "any", .free "bool", .free "enumerate", .free "int", .free "isinstance", .free "len", .free "list", .free "max", .free "range", .free "repr", .free "set", .free "sorted", .free "sum", .free "tuple", .int "MOST_NAMES" 6, .int "MOST_STANDS" 2000]
abbrev R : PySem.W.OpenRow := PySem.W.OpenLaw.row PySem.Challenge.rw_howeverwide_k43_whole_lots_reached
abbrev hk : PySem.W.Hook := He.hookD 4 fa fn
def ob (s : PySem.W.SharedT) : He.AlD := He.obsDG 4 fa fn (HandSHeadRun.getT s)
theorem ob_eq (s : PySem.W.SharedT) : ob s = hk.obs s.abs := He.obsDG_eq (HandSHeadRun.getT_eq s)
def loose0 : List PySem.Str := ["ClaimError", "InvalidTable", "TooMany", "MOST_NAMES", "is_whole", "is_count_to", "is_table_form", "is_step", "mask_of", "stands_of", "masks_behind", "lot_behind", "lots_in_turn", "check_table", "MOST_STANDS", "made_plain", "shortest_turn", "lots_reached", "lots_of_table", "taken_widths"]
def loose1 : List PySem.Str := ["full_widths", "widths_where", "is_met_lot", "_law_hash", "_law_random", "_law_cell", "_law_generator", "_law_plain", "_law_table", "_law_next", "_law_rows_right", "_law_right"]
def loose : List PySem.Str := loose0 ++ loose1
theorem run (w : World) : HandSHeadRun.RunEq R (PySem.W.view R.prog [39]) hk ob 4000 loose w := by
  intro os
  kernel_rfl
theorem facts {P : Program} {w : World} {K : PySem.W.Frag} {h : Heap} {mg : Str → Option Value} {f : Addr} (X : K.In h) (G : h.Ns mainGlobals mg) (hfa : mg ("law" : Str) = some (.ref f)) (c : He.SaysD fa fn K) :
    ∃ fd : FuncData, (∀ (s : Shared) (v : Value), BindsTo s fd ⟨[v], []⟩ [("_law_script", v)]) ∧ ∀ base : Heap, K.In base → base.Ns mainGlobals mg → FnG P w K mg base CX0 9 f fd ["_law_script"] (spLaw K) := by
  obtain ⟨e_is_whole, F_is_whole⟩ := c.def_ 0 (d := d_is_whole) rfl
  obtain ⟨e_is_count_to, F_is_count_to⟩ := c.def_ 1 (d := d_is_count_to) rfl
  obtain ⟨e_is_table_form, F_is_table_form⟩ := c.def_ 2 (d := d_is_table_form) rfl
  obtain ⟨e_is_step, F_is_step⟩ := c.def_ 3 (d := d_is_step) rfl
  obtain ⟨e_mask_of, F_mask_of⟩ := c.def_ 4 (d := d_mask_of) rfl
  obtain ⟨e_stands_of, F_stands_of⟩ := c.def_ 5 (d := d_stands_of) rfl
  obtain ⟨e_masks_behind, F_masks_behind⟩ := c.def_ 6 (d := d_masks_behind) rfl
  obtain ⟨e_lot_behind, F_lot_behind⟩ := c.def_ 7 (d := d_lot_behind) rfl
  obtain ⟨e_lots_in_turn, F_lots_in_turn⟩ := c.def_ 8 (d := d_lots_in_turn) rfl
  obtain ⟨e_check_table, F_check_table⟩ := c.def_ 9 (d := d_check_table) rfl
  obtain ⟨e_made_plain, F_made_plain⟩ := c.def_ 10 (d := d_made_plain) rfl
  obtain ⟨e_shortest_turn, F_shortest_turn⟩ := c.def_ 11 (d := d_shortest_turn) rfl
  obtain ⟨e_lots_reached, F_lots_reached⟩ := c.def_ 12 (d := d_lots_reached) rfl
  obtain ⟨e_lots_of_table, F_lots_of_table⟩ := c.def_ 13 (d := d_lots_of_table) rfl
  obtain ⟨e_taken_widths, F_taken_widths⟩ := c.def_ 14 (d := d_taken_widths) rfl
  obtain ⟨e_full_widths, F_full_widths⟩ := c.def_ 15 (d := d_full_widths) rfl
  obtain ⟨e_widths_where, F_widths_where⟩ := c.def_ 16 (d := d_widths_where) rfl
  obtain ⟨e_is_met_lot, F_is_met_lot⟩ := c.def_ 17 (d := d_is_met_lot) rfl
  obtain ⟨e_law_hash, F_law_hash⟩ := c.def_ 18 (d := d_law_hash) rfl
  obtain ⟨e_law_random, F_law_random⟩ := c.def_ 19 (d := d_law_random) rfl
  obtain ⟨e_law_cell, F_law_cell⟩ := c.def_ 20 (d := d_law_cell) rfl
  obtain ⟨e_law_generator, F_law_generator⟩ := c.def_ 21 (d := d_law_generator) rfl
  obtain ⟨e_law_plain, F_law_plain⟩ := c.def_ 22 (d := d_law_plain) rfl
  obtain ⟨e_law_table, F_law_table⟩ := c.def_ 23 (d := d_law_table) rfl
  obtain ⟨e_law_next, F_law_next⟩ := c.def_ 24 (d := d_law_next) rfl
  obtain ⟨e_law_rows_right, F_law_rows_right⟩ := c.def_ 25 (d := d_law_rows_right) rfl
  obtain ⟨e_law_right, F_law_right⟩ := c.def_ 26 (d := d_law_right) rfl
  obtain ⟨e_law, F_law⟩ := c.def_ 27 (d := d_law) rfl
  have g_is_whole := He.glo_ok X G (c.fact 0 (f := .glo "is_whole") rfl)
  have g_is_count_to := He.glo_ok X G (c.fact 1 (f := .glo "is_count_to") rfl)
  have g_is_table_form := He.glo_ok X G (c.fact 2 (f := .glo "is_table_form") rfl)
  have g_is_step := He.glo_ok X G (c.fact 3 (f := .glo "is_step") rfl)
  have g_mask_of := He.glo_ok X G (c.fact 4 (f := .glo "mask_of") rfl)
  have g_stands_of := He.glo_ok X G (c.fact 5 (f := .glo "stands_of") rfl)
  have g_masks_behind := He.glo_ok X G (c.fact 6 (f := .glo "masks_behind") rfl)
  have g_lot_behind := He.glo_ok X G (c.fact 7 (f := .glo "lot_behind") rfl)
  have g_lots_in_turn := He.glo_ok X G (c.fact 8 (f := .glo "lots_in_turn") rfl)
  have g_check_table := He.glo_ok X G (c.fact 9 (f := .glo "check_table") rfl)
  have g_made_plain := He.glo_ok X G (c.fact 10 (f := .glo "made_plain") rfl)
  have g_shortest_turn := He.glo_ok X G (c.fact 11 (f := .glo "shortest_turn") rfl)
  have g_lots_reached := He.glo_ok X G (c.fact 12 (f := .glo "lots_reached") rfl)
  have g_lots_of_table := He.glo_ok X G (c.fact 13 (f := .glo "lots_of_table") rfl)
  have g_taken_widths := He.glo_ok X G (c.fact 14 (f := .glo "taken_widths") rfl)
  have g_full_widths := He.glo_ok X G (c.fact 15 (f := .glo "full_widths") rfl)
  have g_widths_where := He.glo_ok X G (c.fact 16 (f := .glo "widths_where") rfl)
  have g_is_met_lot := He.glo_ok X G (c.fact 17 (f := .glo "is_met_lot") rfl)
  have g_law_hash := He.glo_ok X G (c.fact 18 (f := .glo "_law_hash") rfl)
  have g_law_random := He.glo_ok X G (c.fact 19 (f := .glo "_law_random") rfl)
  have g_law_cell := He.glo_ok X G (c.fact 20 (f := .glo "_law_cell") rfl)
  have g_law_generator := He.glo_ok X G (c.fact 21 (f := .glo "_law_generator") rfl)
  have g_law_plain := He.glo_ok X G (c.fact 22 (f := .glo "_law_plain") rfl)
  have g_law_table := He.glo_ok X G (c.fact 23 (f := .glo "_law_table") rfl)
  have g_law_next := He.glo_ok X G (c.fact 24 (f := .glo "_law_next") rfl)
  have g_law_rows_right := He.glo_ok X G (c.fact 25 (f := .glo "_law_rows_right") rfl)
  have g_law_right := He.glo_ok X G (c.fact 26 (f := .glo "_law_right") rfl)
  have g_law := He.glo_ok X G (c.fact 27 (f := .glo "law") rfl)
  have i_MOST_NAMES : ∃ u, mg "MOST_NAMES" = some u ∧ RelV (.int 6) u := by
    obtain ⟨t, q⟩ := He.int_ok X G (c.fact 43 (f := .int "MOST_NAMES" 6) rfl)
    exact ⟨_, q, t, rfl⟩
  have i_MOST_STANDS : ∃ u, mg "MOST_STANDS" = some u ∧ RelV (.int 2000) u := by
    obtain ⟨t, q⟩ := He.int_ok X G (c.fact 44 (f := .int "MOST_STANDS" 2000) rfl)
    exact ⟨_, q, t, rfl⟩
  have e := hfa.symm.trans g_law
  cases e
  let T : Tx K mg := { a_is_whole := _, d_is_whole := e_is_whole, F_is_whole := F_is_whole, g_is_whole := g_is_whole, a_is_count_to := _, d_is_count_to := e_is_count_to, F_is_count_to := F_is_count_to, g_is_count_to := g_is_count_to, a_is_table_form := _, d_is_table_form := e_is_table_form, F_is_table_form := F_is_table_form, g_is_table_form := g_is_table_form, a_is_step := _, d_is_step := e_is_step, F_is_step := F_is_step, g_is_step := g_is_step, a_mask_of := _, d_mask_of := e_mask_of, F_mask_of := F_mask_of, g_mask_of := g_mask_of, a_stands_of := _, d_stands_of := e_stands_of, F_stands_of := F_stands_of, g_stands_of := g_stands_of, a_masks_behind := _, d_masks_behind := e_masks_behind, F_masks_behind := F_masks_behind, g_masks_behind := g_masks_behind, a_lot_behind := _, d_lot_behind := e_lot_behind, F_lot_behind := F_lot_behind, g_lot_behind := g_lot_behind, a_lots_in_turn := _, d_lots_in_turn := e_lots_in_turn, F_lots_in_turn := F_lots_in_turn, g_lots_in_turn := g_lots_in_turn, a_check_table := _, d_check_table := e_check_table, F_check_table := F_check_table, g_check_table := g_check_table, a_made_plain := _, d_made_plain := e_made_plain, F_made_plain := F_made_plain, g_made_plain := g_made_plain, a_shortest_turn := _, d_shortest_turn := e_shortest_turn, F_shortest_turn := F_shortest_turn, g_shortest_turn := g_shortest_turn, a_lots_reached := _, d_lots_reached := e_lots_reached, F_lots_reached := F_lots_reached, g_lots_reached := g_lots_reached, a_lots_of_table := _, d_lots_of_table := e_lots_of_table, F_lots_of_table := F_lots_of_table, g_lots_of_table := g_lots_of_table, a_taken_widths := _, d_taken_widths := e_taken_widths, F_taken_widths := F_taken_widths, g_taken_widths := g_taken_widths, a_full_widths := _, d_full_widths := e_full_widths, F_full_widths := F_full_widths, g_full_widths := g_full_widths, a_widths_where := _, d_widths_where := e_widths_where, F_widths_where := F_widths_where, g_widths_where := g_widths_where, a_is_met_lot := _, d_is_met_lot := e_is_met_lot, F_is_met_lot := F_is_met_lot, g_is_met_lot := g_is_met_lot, a_law_hash := _, d_law_hash := e_law_hash, F_law_hash := F_law_hash, g_law_hash := g_law_hash, a_law_random := _, d_law_random := e_law_random, F_law_random := F_law_random, g_law_random := g_law_random, a_law_cell := _, d_law_cell := e_law_cell, F_law_cell := F_law_cell, g_law_cell := g_law_cell, a_law_generator := _, d_law_generator := e_law_generator, F_law_generator := F_law_generator, g_law_generator := g_law_generator, a_law_plain := _, d_law_plain := e_law_plain, F_law_plain := F_law_plain, g_law_plain := g_law_plain, a_law_table := _, d_law_table := e_law_table, F_law_table := F_law_table, g_law_table := g_law_table, a_law_next := _, d_law_next := e_law_next, F_law_next := F_law_next, g_law_next := g_law_next, a_law_rows_right := _, d_law_rows_right := e_law_rows_right, F_law_rows_right := F_law_rows_right, g_law_rows_right := g_law_rows_right, a_law_right := _, d_law_right := e_law_right, F_law_right := F_law_right, g_law_right := g_law_right, a_law := _, d_law := e_law, F_law := F_law, g_law := g_law, z_all := He.free_ok X G (c.fact 28 (f := .free "all") rfl), z_any := He.free_ok X G (c.fact 29 (f := .free "any") rfl), z_bool := He.free_ok X G (c.fact 30 (f := .free "bool") rfl), z_enumerate := He.free_ok X G (c.fact 31 (f := .free "enumerate") rfl), z_int := He.free_ok X G (c.fact 32 (f := .free "int") rfl), z_isinstance := He.free_ok X G (c.fact 33 (f := .free "isinstance") rfl), z_len := He.free_ok X G (c.fact 34 (f := .free "len") rfl), z_list := He.free_ok X G (c.fact 35 (f := .free "list") rfl), z_max := He.free_ok X G (c.fact 36 (f := .free "max") rfl), z_range := He.free_ok X G (c.fact 37 (f := .free "range") rfl), z_repr := He.free_ok X G (c.fact 38 (f := .free "repr") rfl), z_set := He.free_ok X G (c.fact 39 (f := .free "set") rfl), z_sorted := He.free_ok X G (c.fact 40 (f := .free "sorted") rfl), z_sum := He.free_ok X G (c.fact 41 (f := .free "sum") rfl), z_tuple := He.free_ok X G (c.fact 42 (f := .free "tuple") rfl), c_MOST_NAMES := i_MOST_NAMES, c_MOST_STANDS := i_MOST_STANDS }
  have b := FunD.bindsA (ps := ["_law_script"]) F_law fun _ _ _ _ _ _ us hl => match us, hl with | [_], _ => rfl
  exact ⟨e_law, fun s v => b s [v] rfl, fun base _ _ => ok_law T⟩
end K43E
open PySem PySem.W PySem.Calls PyProof.Rows
set_option maxRecDepth 100000 in
set_option maxHeartbeats 0 in
theorem PySem.Challenge.cw_howeverwide_k43_whole_lots_reached_holds : PySem.Challenge.rw_howeverwide_k43_whole_lots_reached.Holds := by
  w_on; o_law
  refine HandSHeadRun.head_any (r := OpenLaw.row PySem.Challenge.rw_howeverwide_k43_whole_lots_reached) (q := view (OpenLaw.row PySem.Challenge.rw_howeverwide_k43_whole_lots_reached).prog [39]) (H := K43E.hk) (ob := K43E.ob) (M := 4000) (loose := K43E.loose) (d := HandSHeadRun.topDef (OpenLaw.row PySem.Challenge.rw_howeverwide_k43_whole_lots_reached).prog 39) (kwd := []) K43E.ob_eq
    (by kernel_rfl) (fun s => by kernel_rfl) K43E.run (by kernel_rfl) (by kernel_rfl) (by kernel_rfl) (by rfl) (by first | assumption | decide +kernel) (by decide +kernel) ⟨rfl, rfl, rfl, rfl, rfl, by decide +kernel⟩ ?hw ?hc
  case hw => w_witness2
  case hc =>
    refine Hw.walkG (l := PySem.Challenge.rw_howeverwide_k43_whole_lots_reached) (n := 63) (k := 9) (x := "_law_script") rfl (by decide) (by kernel_rfl) ⟨rfl, by decide, by decide⟩ ?F
    intro w mg fa h Y G hmg0
    obtain ⟨K, KX, c⟩ := Y
    have hmg : mg ("law" : PySem.Str) = some (.ref fa) := by
      have e : (HandSHeadRun.topDef (OpenLaw.row PySem.Challenge.rw_howeverwide_k43_whole_lots_reached).prog 39).name = ("law" : PySem.Str) := by kernel_rfl
      rw [← e]
      exact hmg0
    obtain ⟨fd, hb, hF⟩ := K43E.facts (P := (PySem.Challenge.rw_howeverwide_k43_whole_lots_reached).prog) (w := w) KX G hmg c
    exact ⟨K, fd, K43.spLaw K, KX, hb, fun H a ns hl _ hS => ⟨a, ns, rfl, hl, hS, fun _ => rfl⟩, hF⟩
