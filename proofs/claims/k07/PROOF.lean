import PyProof.Rows.All
import Wide.All
import OpenK.AllK
import Wide.FinOn
import PyProof.ReprRoads
import HandS.Base
import HandS.Call
import HandS.List
import HandS.Comp
import HandS.Ends
import HandS.Words
import HandS.Wide
import HandS.WideBits
import HandS.IsInst
import HandS.Defaults
import HandS.Flow
import HandS.Walk
import HandS.Codes
import HandS.Conv
import HandS.ForMost
import HandS.TupAny
import HandS.TupLe
import HandS.Dict
import PyProof.Rows.InDataRows
import KE.KFromBytes
import HandS.Exc
import HandS.ExcInit
import HandS.ExcField
import KE.KExcIs
import HandS.MakeKw
import HandS.HeadHook1
import HandS.ExcValue
import KE.KEqDict
import HandS.HeadHook2
import HandS.HeadHook3
import HandS.Zip
import HandS.Deep
import HandS.SortInts
import KE.LtData
import KE.KSortAsk
import KE.KSortTupAny
import HandS.SortRule
import HandS.Set
import HandS.SetFor
import HandS.Strs
import HandS.SetTxt0
import KE.BitLaws
import HandS.Text
import PySem.Challenge.RW_howeverwide_k07_whole_values
import KE.KStateDown
import Wide.Once
import Lean
import HandS.Head0
import HandS.Head1
import HandS.Head2
import HandS.Head3
import HandS.HeadEnd
set_option Elab.async false
set_option linter.all false
set_option maxRecDepth 100000
set_option maxHeartbeats 4000000
/-! A layer of ours over HandS: defs whose runs know that no repr stands around them (so that repr of lists may be shown), calls by keywords alone, repr of data, powers. -/
namespace Hw
open PySem PySem.Spec PyProof.Rows L2

/-- no repr is under way -/
abbrev Gd (A : Around) : Prop := A.guards = some []

section
variable (P : Program) (w : World) (K : PySem.W.Frag) (mg : Str → Option Value) (base : Heap) (CX : CXT)
/-- a def's promise where no repr is under way -/
structure FnG (k : Nat) (f : Addr) (fd : FuncData) (ps : List Str) (sp : Sp) : Prop where
  arity : ∀ vs H Q E, sp vs H Q E → vs.length = ps.length
  go : ∀ (A : Around) (outer : List Env) (s : Shared) (H : Hp) (args : Args) (us : List Value) (vs : List V) (Q : VK) (E : XK),
    Gd A → Room k A → Env0 P w K mg base A outer s H → BindsTo s fd args (ps.zip us) → Vals vs us → sp vs H Q E → codeAny (model P w) A (.call (.ref f) args) (CR CX outer P w H s Q E) s
end
section
variable {P : Program} {w : World} {K : PySem.W.Frag} {mg : Str → Option Value} {base : Heap} {CX : CXT}
theorem FnG.up {j k : Nat} {f : Addr} {fd : FuncData} {ps : List Str} {sp : Sp} (F : FnG P w K mg base CX j f fd ps sp) (h : j ≤ k) : FnG P w K mg base CX k f fd ps sp :=
  ⟨F.arity, fun A outer s H args us vs Q E g r => F.go A outer s H args us vs Q E g (r.mono h)⟩
theorem FnG.weak {k : Nat} {f : Addr} {fd : FuncData} {ps : List Str} {sp sp' : Sp} (F : FnG P w K mg base CX k f fd ps sp) (h : ∀ vs H Q E, sp' vs H Q E → sp vs H Q E) : FnG P w K mg base CX k f fd ps sp' :=
  ⟨fun vs H Q E q => F.arity vs H Q E (h _ _ _ _ q), fun A outer s H args us vs Q E g r e b v q => F.go A outer s H args us vs Q E g r e b v (h _ _ _ _ q)⟩
theorem FnG.ofOk {k : Nat} {f : Addr} {fd : FuncData} {ps : List Str} {sp : Sp} (F : FnOk P w K mg base CX k f fd ps sp) : FnG P w K mg base CX k f fd ps sp :=
  ⟨F.len, fun A outer s H args us vs Q E _ => F.run A outer s H args us vs Q E⟩

/-- a def of the text without defaults -/
abbrev DefAt (K : PySem.W.Frag) (x : Str) (st : Stmt) (f : Addr) (fd : FuncData) : Prop := FunD K x x (defArgs st) (defBody st) (defScope st) [] [] f fd

/-- the rule of a def's body, where no repr is under way -/
theorem bodyG {x qual : Str} {params : Arguments} {body : List Stmt} {scope : Scope} {dvs : List V} {kws : List (Str × V)} {f : Addr} {fd : FuncData} {N ps : List Str} {k : Nat} {sp : Sp}
    (F : FunD K x qual params body scope dvs kws f fd) (S : FnScope N ps scope) (ar : ∀ vs H Q E, sp vs H Q E → vs.length = ps.length)
    (hb : ∀ (cdv : Value) (A : Around) (outer : List Env) (s : Shared) (H : Hp) (vs : List V) (Q : VK) (E : XK), Gd (A.deeper (envOfC qual scope s.heap.objs.size f cdv)) → Room k (A.deeper (envOfC qual scope s.heap.objs.size f cdv)) → sp vs H Q E →
      ∃ t, PSs (cxOf CX P w K mg base N qual scope f cdv A outer s H E) body t ∧ t { nx := fun _ H' => Q .non H', rt := Q } (start N vs) H) : FnG P w K mg base CX (k + 1) f fd ps sp := by
  refine ⟨ar, ?_⟩
  intro A outer s H args us vs Q E gd room env bind rel want
  obtain ⟨oc, od, dV, kV, doc, pm, an, cdv, ct, osl, rfl, look, codeIs, -, -⟩ := F.ex
  have inK : K.In s.heap := env.mod.kin.keeps fun b o q => (env.bs b o q).1
  have noLim : s.heap.NoLimit := env.mod.nolimit.keeps fun b o q => (env.bs b o q).1
  have kinds : ∀ y ∈ ps.zip us, scope.names.lookup y.1 = some .local ∨ (scope.names.lookup y.1 = some .cell ∧ ((cellsFrom (s.heap.objs.size + 1) scope.names []).lookup y.1).isSome = true) := by
    rintro ⟨n, v⟩ hy
    cases S.par n (List.of_mem_zip hy).1 with
    | inl q => exact Or.inl q
    | inr q => exact Or.inr ⟨q, PySem.W.cellsFrom_some _ _ _ (Or.inl q)⟩
  refine codeAny_call_function room.depth (inK _ _ look) rfl S.co S.gen rfl (PySem.W.codeRec_of inK codeIs) (bind _ _ _ _ ?_)
  refine wpAny_newFunctionEnv_cells S.kind kinds ?_
  rintro env' rfl s1 x1
  refine ⟨noLim.keeps x1.toInCall.keep, codeAny_func ?_⟩
  obtain ⟨t, run, done⟩ := hb cdv A outer s H vs Q E gd (room.deeper _) want
  have I := inv_start (CX := CX) (E := E) S room.hd env (ar _ _ _ _ want) rel x1
  refine wpAny_mono (run.run [] s1 (start N vs) H _ I done) ?_ (fun _ _ q => q)
  intro fl s' after
  cases fl with
  | ret u =>
    obtain ⟨v, σ', H', J, rv, q⟩ := after
    exact ⟨v, H', J.os, J.bare, J.base, J.hok, rv, q⟩
  | next =>
    obtain ⟨σ', H', J, q⟩ := after
    exact ⟨V.non, H', J.os, J.bare, J.base, J.hok, rfl, q⟩
  | brk => exact (after.choose_spec.choose_spec.2 : False).elim
  | cont => exact (after.choose_spec.choose_spec.2 : False).elim
/-- the same for a def that lets nothing out -/
theorem bodyG0 {x : Str} {st : Stmt} {f : Addr} {fd : FuncData} {N ps : List Str} {k : Nat} {sp : Sp}
    (F : DefAt K x st f fd) (S : FnScope N ps (defScope st)) (ar : ∀ vs H Q E, sp vs H Q E → vs.length = ps.length)
    (hb : ∀ (cdv : Value) (A : Around) (outer : List Env) (s : Shared) (H : Hp) (vs : List V) (Q : VK) (E : XK), Gd (A.deeper (envOfC x (defScope st) s.heap.objs.size f cdv)) → Room k (A.deeper (envOfC x (defScope st) s.heap.objs.size f cdv)) → sp vs H Q E →
      ∃ t, PSs (cxOf CX0 P w K mg base N x (defScope st) f cdv A outer s H E).nox (defBody st) t ∧ t { nx := fun _ H' => Q .non H', rt := Q } (start N vs) H) : FnG P w K mg base CX0 (k + 1) f fd ps sp :=
  bodyG F S ar fun cdv A outer s H vs Q E gd room want => by
    obtain ⟨t, a, b⟩ := hb cdv A outer s H vs Q E gd room want
    exact ⟨t, a.nox, b⟩
end

section
variable {X : Cx} {CX : CXT} {k : Nat} {f : Addr} {fd : FuncData} {ps ks : List Str} {sp : Sp} {dvs : List V} {ds : List Value} {E : XK} {x : Str} {p pos : Pos} {e : Expr} {es : List Expr} {kws : List Keyword} {t tk : TA}
theorem runG {pins : List (Addr × Obj)} {σ : L2.St} {H : Hp} {s : Shared} {Q : VK} {us0 : List Value} {kw : List (Str × Value)} {us : List Value} {vs : List V} (F : FnG X.prog X.w X.K X.mg X.base CX k f fd ps sp) (gd : Gd X.A) (hr : Room k X.A) (hx : Passes CX X E)
    (I : Inv X pins σ H s) (hb : BindsTo s fd ⟨us0, kw⟩ (ps.zip us)) (r : Vals vs us) (h : sp vs H Q E) : wpAny (model X.prog X.w) X.A (call (.ref f) us0 kw) (EP X pins σ Q) X.xe s := by
  refine wpAny_call (codeAny_mono (F.go X.A X.stack s H ⟨us0, kw⟩ us vs Q E gd hr I.env0 hb r h) ?_)
  intro r s' q
  match r, q with
  | .error e, q => exact hx pins σ H s e s' I q
  | .ok (.ret u), q => exact I.after q
  | .ok .next, q => exact (show False from q).elim
  | .ok .brk, q => exact (show False from q).elim
  | .ok .cont, q => exact (show False from q).elim
/-- f(e, ..) -/
theorem pe_g (F : FnG X.prog X.w X.K X.mg X.base CX k f fd ps sp) (gd : Gd X.A) (hr : Room k X.A) (hg : Gl X x) (hm : X.mg x = some (.ref f)) (hk : PySem.W.keepIn X.K (.ref f) = true) (hb : Binds X.K fd ps ds) (hd : Vals dvs ds) (hx : Passes CX X E)
    (ha : PA X (e :: es) t) (hdb : (x == ("__debug__" : Str)) = false := by decide) (he : starEach (e :: es) X.env = (false, eval e X.env) :: starEach es X.env := by rfl) (hpl : (backTo pos (starEach es X.env)).any (·.1) = false := by rfl) :
    PE X (.Call (.Name x p) (e :: es) [] pos) (tCall sp dvs E t) := by
  constructor
  intro pins s σ H Q I h
  apply wpAny_Call_Name_kw
  refine ld_glob I hg hm (PySem.W.callWith_K (h₀ := X.base) I.ok.mod.kin hk (thn (ha.run pos pins s σ H _ I h) ?_) he hpl) hdb
  rintro us s1 ⟨vs, H1, I1, r, q⟩
  have r2 : Vals (vs ++ dvs) (us ++ ds) := r.append hd
  exact ⟨I1.kIn, runG F gd hr hx I1 (hb s1 us I1.kIn (r2.length.symm.trans (F.arity _ _ _ _ q))) r2 q⟩
/-- f() -/
theorem pe_g0 (F : FnG X.prog X.w X.K X.mg X.base CX k f fd ps sp) (gd : Gd X.A) (hr : Room k X.A) (hg : Gl X x) (hm : X.mg x = some (.ref f)) (hk : PySem.W.keepIn X.K (.ref f) = true) (hb : Binds X.K fd ps ds) (hd : Vals dvs ds) (hx : Passes CX X E)
    (hdb : (x == ("__debug__" : Str)) = false := by decide) : PE X (.Call (.Name x p) [] [] pos) (tCall sp dvs E tNil) := by
  constructor
  intro pins s σ H Q I h
  apply wpAny_Call_Name_kw
  refine ld_glob I hg hm (PySem.W.callWith_K0 I.kIn hk ?_) hdb
  have r2 : Vals ([] ++ dvs) ([] ++ ds) := Vals.append .nil hd
  exact runG (us0 := []) F gd hr hx I (hb s [] I.kIn (r2.length.symm.trans (F.arity _ _ _ _ h))) r2 h
/-- how a call by keywords alone binds: the keywords ks, brought into the parameters' order by g (by gV the values) -/
structure KwB (fd : FuncData) (ps ks : List Str) (g : List Value → List Value) (gV : List V → List V) : Prop where
  to : ∀ (s : Shared) (ws : List Value), ws.length = ks.length → BindsTo s fd ⟨[], ks.zip ws⟩ (ps.zip (g ws))
  rel : ∀ {zs : List V} {ws : List Value}, zs.length = ks.length → Vals zs ws → Vals (gV zs) (g ws)
def tCallW (sp : Sp) (n : Nat) (gV : List V → List V) (E : XK) (tk : TA) : TE := fun σ H Q => tk σ H fun zs H1 => zs.length = n ∧ sp (gV zs) H1 Q E
/-- f(k = v, ..) -/
theorem pe_gk {g : List Value → List Value} {gV : List V → List V} (F : FnG X.prog X.w X.K X.mg X.base CX k f fd ps sp) (gd : Gd X.A) (hr : Room k X.A) (hg : Gl X x) (hm : X.mg x = some (.ref f)) (hk : PySem.W.keepIn X.K (.ref f) = true) (hb : KwB fd ps ks g gV) (hx : Passes CX X E)
    (hkw : PK X kws tk) (hall : (backToKw pos (keywordEach kws X.env)).all (·.1.isSome) = true := by rfl) (hks : (backToKw pos (keywordEach kws X.env)).filterMap (·.1) = ks := by rfl) (hdb : (x == ("__debug__" : Str)) = false := by decide)
    (hpl : ((backTo pos (starEach [] X.env)).any (·.1) || (backToKw pos (keywordEach kws X.env)).any (·.1.isNone)) = false := by rfl) :
    PE X (.Call (.Name x p) [] kws pos) (tCallW sp ks.length gV E tk) := by
  constructor
  intro pins s σ H Q I h
  apply wpAny_Call_Name_kw
  refine ld_glob I hg hm (PySem.W.callWith_KW0 (h₀ := X.base) I.ok.mod.kin hk hall (thn (hkw.run pos pins s σ H _ I h) ?_) hpl) hdb
  rintro ws s1 ⟨zs, H1, I1, rz, l, q⟩
  rw [hks]
  exact ⟨I1.kIn, runG (us0 := []) F gd hr hx I1 (hb.to s1 ws (rz.length.symm.trans l)) (hb.rel l rz) q⟩
end

/-! ### operators -/
def CPowW (i j : Int) : Prop := 0 ≤ j ∧ (Builtin.Int.intBits i : Int) * j ≤ 2 ^ 27
theorem powW_ok {i : Int} {n j : Nat} (h : i.natAbs < 2 ^ n) (hj : n * j ≤ 134217728) : CPowW i (j : Int) := by
  have b := PyProof.Rows.intBits_le h
  refine ⟨Int.natCast_nonneg _, ?_⟩
  have e : (2 : Int) ^ 27 = 134217728 := by decide
  rw [e, ← Int.natCast_mul]
  have c : Builtin.Int.intBits i * j ≤ n * j := Nat.mul_le_mul_right j b
  omega
section
variable {X : Cx}
theorem op_powW : OpR X (binaryOp .Pow) (rI CPowW fun i j => .int (i ^ j.toNat)) := opI fun _ _ _ _ _ _ _ hc q => pow_int hc.1 hc.2 q
end
/-! ### data that may be shown and compared -/
mutual
/-- data without dicts, of numbers of at most 38 figures and plain texts -/
def okD : PyData → Bool
  | .none | .bool _ => true
  | .int i => decide (i.natAbs < 10 ^ 38)
  | .str x => PyData.strOk x && x.cps.toList.all fun c => decide (c < 16 ^ 8)
  | .list xs | .tuple xs => okDs xs
  | .dict _ => false
def okDs : List PyData → Bool
  | [] => true
  | x :: xs => okD x && okDs xs
end
theorem int38 {i : Int} (h : i.natAbs < 10 ^ 38) : i.natAbs.log2 < 1920 :=
  Nat.lt_of_lt_of_le (PySem.Flt.log2_lt_of (k := 127) (by decide) (Nat.lt_of_lt_of_le h (by decide +kernel))) (by decide)
theorem short38 {i : Int} (h : i.natAbs < 10 ^ 38) : (PyData.shown (.int i)).length ≤ 40 := by
  have e := int_text_length_le10 (k := 38) (by decide) h
  show (Str.ofString (toString i)).length ≤ 40
  rw [PySem.ofString_length]
  omega
mutual
theorem okD_all : ∀ d : PyData, okD d = true → d.canLay0 = true ∧ d.showable = true ∧ d.hasDict = false ∧ d.leavesShort 40 = true
  | .none, _ => ⟨by simp only [PyData.canLay0], by simp only [PyData.showable], by simp only [PyData.hasDict], by simp only [PyData.leavesShort]⟩
  | .bool _, _ => ⟨by simp only [PyData.canLay0], by simp only [PyData.showable], by simp only [PyData.hasDict], by simp only [PyData.leavesShort]⟩
  | .int i, h => by
    have h' : i.natAbs < 10 ^ 38 := by simpa only [okD, decide_eq_true_eq] using h
    exact ⟨by simp only [PyData.canLay0], by simp only [PyData.showable, decide_eq_true_eq]; exact int38 h', by simp only [PyData.hasDict], by simp only [PyData.leavesShort, decide_eq_true_eq]; exact short38 h'⟩
  | .str x, h => by
    have h' : PyData.strOk x = true ∧ (x.cps.toList.all fun c => decide (c < 16 ^ 8)) = true := by simpa only [okD, Bool.and_eq_true] using h
    exact ⟨by simp only [PyData.canLay0]; exact h'.1, by simp only [PyData.showable], by simp only [PyData.hasDict], by simp only [PyData.leavesShort]; exact h'.2⟩
  | .list xs, h => by
    obtain ⟨a, b, c, d⟩ := okDs_all xs (by simpa only [okD] using h)
    exact ⟨by simp only [PyData.canLay0]; exact a, by simp only [PyData.showable]; exact b, by simp only [PyData.hasDict]; exact c, by simp only [PyData.leavesShort]; exact d⟩
  | .tuple xs, h => by
    obtain ⟨a, b, c, d⟩ := okDs_all xs (by simpa only [okD] using h)
    exact ⟨by simp only [PyData.canLay0]; exact a, by simp only [PyData.showable]; exact b, by simp only [PyData.hasDict]; exact c, by simp only [PyData.leavesShort]; exact d⟩
  | .dict _, h => by simp only [okD] at h; cases h
theorem okDs_all : ∀ ds : List PyData, okDs ds = true → PyData.canLayAll0 ds = true ∧ PyData.showableAll ds = true ∧ PyData.hasDictAll ds = false ∧ PyData.leavesShortAll 40 ds = true
  | [], _ => ⟨by simp only [PyData.canLayAll0], by simp only [PyData.showableAll], by simp only [PyData.hasDictAll], by simp only [PyData.leavesShortAll]⟩
  | x :: xs, h => by
    have h' : okD x = true ∧ okDs xs = true := by simpa only [okDs, Bool.and_eq_true] using h
    obtain ⟨a, b, c, d⟩ := okD_all x h'.1
    obtain ⟨a2, b2, c2, d2⟩ := okDs_all xs h'.2
    exact ⟨by simp only [PyData.canLayAll0, a, a2, Bool.and_self], by simp only [PyData.showableAll, b, b2, Bool.and_self], by simp only [PyData.hasDictAll, c, c2, Bool.or_self], by simp only [PyData.leavesShortAll, d, d2, Bool.and_self]⟩
end
structure Nice (d : PyData) : Prop where
  ok : okD d = true
  deep : d.depth ≤ 60
  small : d.bulk ≤ 262144
theorem Nice.shaped {d : PyData} (n : Nice d) : SeqAt.shaped d = true := by
  show (d.canLay0 && decide (d.depth ≤ 64)) = true
  rw [(okD_all d n.ok).1, decide_eq_true (show d.depth ≤ 64 by have := n.deep; omega)]
  rfl
theorem Nice.fits {d : PyData} (n : Nice d) : d.shown.length ≤ sizeLine := by
  have h := PyData.shown_le_bulk 40 (by decide) d (okD_all d n.ok).2.2.2
  have k := n.small
  rw [sizeLine_eq]
  omega
theorem Nice.refl {d : PyData} (n : Nice d) : PyData.eqv d d = true := SeqAt.eqv_refl d (okD_all d n.ok).1
theorem Nice.int {i : Int} (h : i.natAbs < 10 ^ 38) : Nice (.int i) := ⟨by simp only [okD, decide_eq_true_eq]; exact h, by simp only [PyData.depth]; omega, by simp only [PyData.bulk]; omega⟩
theorem okDs_map {α : Type} (f : α → PyData) : ∀ l : List α, (∀ x ∈ l, okD (f x) = true) → okDs (l.map f) = true
  | [], _ => by simp only [List.map_nil, okDs]
  | x :: r, h => by
    simp only [List.map_cons, okDs, Bool.and_eq_true]
    exact ⟨h x (List.mem_cons_self ..), okDs_map f r fun y hy => h y (List.mem_cons_of_mem _ hy)⟩
theorem depthAll_le {n : Nat} : ∀ l : List PyData, (∀ x ∈ l, x.depth ≤ n) → PyData.depthAll l ≤ n
  | [], _ => by simp only [PyData.depthAll]; omega
  | x :: r, h => by
    have h1 := h x (List.mem_cons_self ..)
    have h2 := depthAll_le r fun y hy => h y (List.mem_cons_of_mem _ hy)
    simp only [PyData.depthAll]
    omega
theorem bulkAll_le {n : Nat} : ∀ l : List PyData, (∀ x ∈ l, x.bulk ≤ n) → PyData.bulkAll l ≤ l.length * (n + 1)
  | [], _ => by simp only [PyData.bulkAll]; omega
  | x :: r, h => by
    have h1 := h x (List.mem_cons_self ..)
    have h2 := bulkAll_le r fun y hy => h y (List.mem_cons_of_mem _ hy)
    simp only [PyData.bulkAll, List.length_cons]
    rw [Nat.succ_mul]
    omega
theorem Nice.listInt {l : List Int} (h : ∀ x ∈ l, x.natAbs < 10 ^ 38) (hl : l.length ≤ 100000) : Nice (.list (l.map .int)) := by
  refine ⟨?_, ?_, ?_⟩
  · simp only [okD]
    exact okDs_map _ l fun x hx => (Nice.int (h x hx)).ok
  · have := depthAll_le (n := 0) (l.map PyData.int) fun x hx => by
      obtain ⟨i, _, rfl⟩ := List.mem_map.mp hx
      simp only [PyData.depth]; omega
    simp only [PyData.depth]; omega
  · have := bulkAll_le (n := 0) (l.map PyData.int) fun x hx => by
      obtain ⟨i, _, rfl⟩ := List.mem_map.mp hx
      simp only [PyData.bulk]; omega
    simp only [PyData.bulk]
    rw [List.length_map] at this
    omega
theorem dps_int {K : PySem.W.Frag} {H : Hp} : ∀ l : List Int, DpAll K H (l.map V.int) (l.map PyData.int)
  | [] => .nil
  | x :: r => .cons (.int x) (dps_int r)
theorem dp_int {K : PySem.W.Frag} {H : Hp} {a : Addr} {l : List Int} (h : SqL K H a (l.map V.int)) : Dp K H (.ref a) (.list (l.map PyData.int)) := .lst h (dps_int l)
section
variable {X : Cx}
/-- repr of data: its text -/
def rRepr (K : PySem.W.Frag) : List V → Hp → VK → Prop := fun xs H Q => ∃ (x : V) (d : PyData), xs = [x] ∧ Dp K H x d ∧ Nice d ∧ Q (.str d.shown) H
theorem call_reprD (gd : Gd X.A) (hu : X.A.units + 64 < cLine) : CallR X (.builtin "repr") (rRepr X.K) := by
  intro pins s σ H xs us Q I r h
  obtain ⟨x, d, rfl, dp, nice, q⟩ := h
  obtain ⟨_, sh, nd, _⟩ := okD_all d nice.ok
  have sz := nice.fits
  have dep := nice.deep
  obtain ⟨u, rfl, ru⟩ := vals1 r
  obtain ⟨as, rd⟩ := Dp.reads I d x u dp ru
  have hsm : d.hasDict = true → sysModules ∉ as := fun e => by rw [nd] at e; cases e
  cases dp with
  | non => cases (show u = Value.none from ru); exact PySem.P.repr_of_none ⟨.str _, H, I.tok _, ⟨_, rfl⟩, q⟩
  | bl b => cases (show u = Value.bool b from ru); exact PySem.P.repr_of_bool ⟨.str _, H, I.tok _, ⟨_, rfl⟩, by simpa only [PyData.shown] using q⟩
  | int i => obtain ⟨t, rfl⟩ := ru; exact PySem.P.repr_of_int (by simpa only [PyData.showable, decide_eq_true_eq] using sh) ⟨.str _, H, I.tok _, ⟨_, rfl⟩, by simpa only [PyData.shown] using q⟩
  | str z => obtain ⟨t, rfl⟩ := ru; exact PySem.P.repr_of_str ⟨.str _, H, I.tok _, ⟨_, rfl⟩, by simpa only [PyData.shown] using q⟩ (by simpa only [PyData.shown] using sz)
  | @lst a xs ds e1 e2 =>
    cases (show u = Value.ref a from ru)
    exact repr_of_reads' rd sh hsm gd (by omega) (fun _ _ e => e) (fun h' u tk hk => ⟨.str _, H, I.kept hk, ⟨_, rfl⟩, q⟩) sz
  | @tup a xs ds e1 e2 =>
    cases (show u = Value.ref a from ru)
    exact repr_of_reads' rd sh hsm gd (by omega) (fun _ _ e => e) (fun h' u tk hk => ⟨.str _, H, I.kept hk, ⟨_, rfl⟩, q⟩) sz
end
/-! ### heaps -/
/-- all but what stands at a is as it was -/
def SameX (a : Addr) (H H' : Hp) : Prop := ∀ b o, b ≠ a → H b = some o → H' b = some o
theorem SameX.refl (a : Addr) (H : Hp) : SameX a H H := fun _ _ _ h => h
theorem SameX.of {a : Addr} {H H' : Hp} (e : Same H H') : SameX a H H' := fun b o _ h => e b o h
theorem SameX.trans {a : Addr} {H H1 H2 : Hp} (e : SameX a H H1) (f : SameX a H1 H2) : SameX a H H2 := fun b o n h => f b o n (e b o n h)
theorem SameX.upd {a : Addr} {H : Hp} {o : HO} : SameX a H (upd H a o) := fun b x n h => by rw [upd_ne n]; exact h
/-- what was there before a was made -/
theorem SameX.same {a : Addr} {H0 H H' : Hp} (e : SameX a H H') (s : Same H0 H) (n : H0 a = none) : Same H0 H' := fun b o h => e b o (ne_of_none h n) (s b o h)
theorem same_new' {H : Hp} {p : Addr} {o : HO} (h : H p = none) : Same H (upd H p o) := fun b x e => by
  rw [upd_ne (ne_of_none e h)]
  exact e
/-! ### tests -/
/-- a comprehension without a test keeps each item -/
theorem yes_if {σ : L2.St} {H : Hp} {A B : Hp → Prop} (h : A H) : tYes σ H fun b H3 => if b = true then A H3 else B H3 := by
  show if true = true then A H else B H
  exact iteT h

/-! ### the law's own call -/
section
variable {P : Program} {w : World} {K : PySem.W.Frag} {mg mb : Str → Option Value} {CX : CXT} {k : Nat} {fa a : Addr} {fd : FuncData} {x : Str} {sp : Sp} {st : Shared} {its : List Value} {ns : List Int}
/-- the call over an abstract heap that tracks nothing but (perhaps) the script -/
theorem lawG_at {H : Hp} (inK : K.In st.heap) (globals : st.heap.Ns mainGlobals mg) (blt : st.heap.Ns builtinsNs mb) (bltIs : ∀ x : Str, x ≠ "__name__" → mb x = bootBuiltins x) (noLim : st.heap.NoLimit) (noGen : st.gens = #[])
    (lst : st.heap.get? a = some { cls := .type "list", data := .seq its.toArray }) (room : Room k callerA)
    (F : ∀ base : Heap, K.In base → base.Ns mainGlobals mg → FnG P w K mg base CX k fa fd [x] sp) (binds : ∀ (s : Shared) (u : Value), BindsTo s fd ⟨[u], []⟩ [(x, u)])
    (want : sp [.ref a] H (fun v _ => v = .bl true) fun _ _ _ => False) (noEx : ∀ e s', CX [] H st (fun _ _ _ => False) e s' → False)
    (only : Only H) (held : HOk P w H st.heap) (atA : ∀ b, H b ≠ none → b = a) (notK : H a ≠ none → K.lookup a = none) :
    codeAny (model P w) callerA (.call (.ref fa) ⟨[.ref a], []⟩) (fun r s' => r = .ok (.ret (.bool true)) ∧ OldK st.heap s'.heap ∧ s'.os = st.os ∧ AllBare s'.gens) st := by
  have dicts : ∀ {b : Addr} {m : Str → Option Value}, st.heap.Ns b m → (hidT st.heap H).Ns b m := by
    rintro b m ⟨o, es, ep, q, d, rest⟩
    refine ⟨o, es, ep, hidT_get q ?_, d, rest⟩
    cases z : H b with
    | none => rfl
    | some u =>
      have eb := atA b (by rw [z]; exact Option.some_ne_none u)
      rw [eb, lst] at q
      have eo := Option.some.inj q
      rw [← eo] at d
      exact (nomatch (show Data.seq its.toArray _ = Data.dict es ep from d))
  have baseK : K.In (hidT st.heap H) := by
    intro b o q
    refine hidT_get (inK b o q) ?_
    cases z : H b with
    | none => rfl
    | some u =>
      have ne : H b ≠ none := by rw [z]; exact Option.some_ne_none u
      have eb := atA b ne
      subst eb
      rw [notK ne] at q
      exact nomatch q
  obtain ⟨mc, l1, l2⟩ := noLim
  have env : Env0 P w K mg (hidT st.heap H) callerA [] st H :=
    { frames := rfl, mod := { kin := baseK, glob := dicts globals, blt := ⟨mb, dicts blt, bltIs⟩, nolimit := ⟨mc, dicts l1, l2⟩ }, bs := fun b o q => of_hidT q,
      bsz := Nat.le_of_eq (hidT_size _ _), funs := trivial, frf := fun b z => (nomatch z), hok := held, bare := .of_eq noGen }
  refine codeAny_mono ((F _ baseK (dicts globals)).go callerA [] st H ⟨[.ref a], []⟩ [.ref a] [.ref a] _ _ rfl room env (binds st (.ref a)) (.cons rfl .nil) want) ?_
  intro r s' q
  match r, q with
  | .error e, q => exact (noEx e s' q).elim
  | .ok .next, q => exact (show False from q).elim
  | .ok .brk, q => exact (show False from q).elim
  | .ok .cont, q => exact (show False from q).elim
  | .ok (.ret u), ⟨v, H', eos, bare, un, held', rv, ev⟩ =>
    have ev' : v = .bl true := ev
    subst ev'
    cases (show u = Value.bool true from rv)
    refine ⟨rfl, OldK.of_keep ?_, eos, bare⟩
    intro b o q
    cases z : H b with
    | none => exact un.keep b o q z (fun y => nomatch y) (fun y => nomatch y)
    | some u =>
      obtain y | ⟨ob, xs, y⟩ := only b
      · rw [z] at y
        exact nomatch y
      · have q1 := (held b _ y).1
        have q2 := (held' b _ (un.frzs b ob _ y)).1
        rw [q] at q1
        rw [Option.some.inj q1]
        exact q2
theorem lawG (inK : K.In st.heap) (globals : st.heap.Ns mainGlobals mg) (blt : st.heap.Ns builtinsNs mb) (bltIs : ∀ x : Str, x ≠ "__name__" → mb x = bootBuiltins x) (noLim : st.heap.NoLimit) (noGen : st.gens = #[])
    (lst : st.heap.get? a = some { cls := .type "list", data := .seq its.toArray }) (areInts : IntsAre its ns) (len : ns.length ≤ sizeLine) (room : Room k callerA)
    (F : ∀ base : Heap, K.In base → base.Ns mainGlobals mg → FnG P w K mg base CX k fa fd [x] sp) (binds : ∀ (s : Shared) (u : Value), BindsTo s fd ⟨[u], []⟩ [(x, u)])
    (want : ∀ H : Hp, Only H → SqL K H a (ns.map V.int) → sp [.ref a] H (fun v _ => v = .bl true) fun _ _ _ => False) (noEx : ∀ H e s', CX [] H st (fun _ _ _ => False) e s' → False) :
    codeAny (model P w) callerA (.call (.ref fa) ⟨[.ref a], []⟩) (fun r s' => r = .ok (.ret (.bool true)) ∧ OldK st.heap s'.heap ∧ s'.os = st.os ∧ AllBare s'.gens) st := by
  have rel := vals_ints areInts
  cases z : K.lookup a with
  | some o =>
    have q := inK a o z
    rw [lst] at q
    have eo := Option.some.inj q
    subst eo
    have only : Only (fun _ => none) := fun _ => Or.inl rfl
    have sq : SqL K (fun _ => none) a (ns.map V.int) := Or.inr ⟨_, its.toArray, _, z, rfl, rfl, rfl, by rw [List.size_toArray, areInts.length]; exact len, rel⟩
    exact lawG_at inK globals blt bltIs noLim noGen lst room F binds (want _ only sq) (noEx _) only (fun b u y => nomatch (show none = some u from y)) (fun b y => (y rfl).elim) (fun y => (y rfl).elim)
  | none =>
    let H : Hp := upd (fun _ => none) a (.frz { cls := .type "list", data := .seq its.toArray } (.lst (ns.map V.int)))
    have at1 : H a = some (.frz { cls := .type "list", data := .seq its.toArray } (.lst (ns.map V.int))) := upd_same
    have off : ∀ b, b ≠ a → H b = none := fun b hb => upd_ne hb
    have only : Only H := by
      intro b
      by_cases hb : b = a
      · rw [hb]
        exact Or.inr ⟨_, _, at1⟩
      · exact Or.inl (off b hb)
    have only1 : ∀ b, H b ≠ none → b = a := by
      intro b y
      by_cases hb : b = a
      · exact hb
      · exact (y (off b hb)).elim
    have held : HOk P w H st.heap := by
      intro b u y
      have hb : b = a := only1 b (by rw [y]; exact Option.some_ne_none u)
      subst hb
      rw [at1] at y
      rw [← Option.some.inj y]
      exact ⟨lst, by rw [List.length_map]; exact len, its, _, rel, lst⟩
    exact lawG_at inK globals blt bltIs noLim noGen lst room F binds (want _ only (Or.inl (Or.inr ⟨_, at1⟩))) (noEx _) only held only1 fun _ => z
end
/-- a law: what the head leaves, from the law's promise -/
theorem walkG {l : PySem.W.OpenLaw} {n k : Nat} {q : Program} {loose : List Str} {XP : (Str → Option Value) → Heap → Prop} {YP : World → Heap → Prop} {d : DefRec} {x : Str}
    (most : l.most = some n) (small : n ≤ sizeLine) (plain : d.params.defaults = []) (room : Room k callerA)
    (F : ∀ (w : World) (mg : Str → Option Value) (fa : Addr) (h : Heap), YP w h → h.Ns mainGlobals mg → mg d.name = some (.ref fa) →
      ∃ (K : PySem.W.Frag) (fd : FuncData) (sp : Sp), K.In h ∧ (∀ (s : Shared) (u : Value), BindsTo s fd ⟨[u], []⟩ [(x, u)]) ∧
        (∀ (H : Hp) (a : Addr) (ns : List Int), ns.length ≤ n → Only H → SqL K H a (ns.map V.int) → sp [.ref a] H (fun v _ => v = .bl true) fun _ _ _ => False) ∧
        ∀ base : Heap, K.In base → base.Ns mainGlobals mg → FnG l.prog w K mg base CX0 k fa fd [x] sp) :
    PySem.W.WalkO q loose XP YP l.row.toRowW d [] (fun f vs => PySem.call f vs) := by
  apply Att.attach_call most plain
  intro w s0 s1 mg mb fa o pm cd doc a vs ns G Y _ _ _ gl lst areInts len gens
  obtain ⟨K, fd, sp, inK, binds, want, run⟩ := F w mg fa _ Y G.T.g gl
  exact lawG inK G.T.g G.T.b G.T.builtins G.T.nolimit gens lst areInts (Nat.le_trans len small) room run binds (fun H o s => want H a ns len o s) fun _ _ _ y => y.elim
end Hw

set_option Elab.async false
set_option linter.all false
set_option maxRecDepth 100000
set_option maxHeartbeats 4000000
/-! data that stands in tracked lists, tuples, dicts -/
namespace Hw
open PySem PySem.Spec PyProof.Rows L2
mutual
inductive Dt (H : Hp) : V → PyData → Prop
  | non : Dt H .non .none
  | bl (b : Bool) : Dt H (.bl b) (.bool b)
  | int (i : Int) : Dt H (.int i) (.int i)
  | str (x : Str) : Dt H (.str x) (.str x)
  | lst {a : Addr} {xs : List V} {ds : List PyData} : H a = some (.lst xs) → DtAll H xs ds → Dt H (.ref a) (.list ds)
  | tup {a : Addr} {xs : List V} {ds : List PyData} : H a = some (.tup xs) → DtAll H xs ds → Dt H (.ref a) (.tuple ds)
  | dic {a : Addr} (kvs : List (Str × Int)) : H a = some (.dK (kvs.map fun p => (.inr p.1, .int p.2))) → Dt H (.ref a) (.dict (kvs.map fun p => (.str p.1, .int p.2)))
inductive DtAll (H : Hp) : List V → List PyData → Prop
  | nil : DtAll H [] []
  | cons {v : V} {vs : List V} {d : PyData} {ds : List PyData} : Dt H v d → DtAll H vs ds → DtAll H (v :: vs) (d :: ds)
end
mutual
theorem Dt.same {H H' : Hp} (e : Same H H') : ∀ (d : PyData) (v : V), Dt H v d → Dt H' v d
  | .none, _, h => by cases h; exact .non
  | .bool b, _, h => by cases h; exact .bl b
  | .int i, _, h => by cases h; exact .int i
  | .str x, _, h => by cases h; exact .str x
  | .list ds, _, h => by
    cases h with
    | lst hs ha => exact .lst (e _ _ hs) (DtAll.same e ds _ ha)
  | .tuple ds, _, h => by
    cases h with
    | tup hs ha => exact .tup (e _ _ hs) (DtAll.same e ds _ ha)
  | .dict ds, _, h => by
    cases h with
    | dic kvs hs => exact .dic kvs (e _ _ hs)
theorem DtAll.same {H H' : Hp} (e : Same H H') : ∀ (ds : List PyData) (vs : List V), DtAll H vs ds → DtAll H' vs ds
  | [], _, h => by cases h; exact .nil
  | d :: ds, _, h => by
    cases h with
    | cons h1 h2 => exact .cons (Dt.same e d _ h1) (DtAll.same e ds _ h2)
end
theorem Dt.to {H H' : Hp} {v : V} {d : PyData} (h : Dt H v d) (e : Same H H') : Dt H' v d := Dt.same e d v h
theorem DtAll.to {H H' : Hp} {v : List V} {d : List PyData} (h : DtAll H v d) (e : Same H H') : DtAll H' v d := DtAll.same e d v h
/-- a write at a place that held nothing of the data -/
theorem Dt.toX {a : Addr} {H H' : Hp} (e : SameX a H H') (H0 : Hp) (s : Same H0 H) (n : H0 a = none) {v : V} {d : PyData} (h : Dt H0 v d) : Dt H' v d := h.to (e.same s n)
theorem DtAll.len {H : Hp} : ∀ {vs : List V} {ds : List PyData}, DtAll H vs ds → vs.length = ds.length
  | _, _, .nil => rfl
  | _, _, .cons _ r => by rw [List.length_cons, List.length_cons, r.len]
theorem DtAll.get {H : Hp} : ∀ {vs : List V} {ds : List PyData}, DtAll H vs ds → ∀ (i : Nat) (v : V), vs[i]? = some v → ∃ d, ds[i]? = some d ∧ Dt H v d
  | _, _, .nil, i, v, h => by simp at h
  | _, _, .cons h1 r, 0, v, h => by
    have e := Option.some.inj (show some _ = some v from h)
    subst e
    exact ⟨_, rfl, h1⟩
  | _, _, .cons _ r, i + 1, v, h => r.get i v h
theorem DtAll.app {H : Hp} : ∀ {vs : List V} {ds : List PyData} {ws : List V} {es : List PyData}, DtAll H vs ds → DtAll H ws es → DtAll H (vs ++ ws) (ds ++ es)
  | _, _, _, _, .nil, k => k
  | _, _, _, _, .cons h r, k => .cons h (r.app k)
theorem DtAll.one {H : Hp} {v : V} {d : PyData} (h : Dt H v d) : DtAll H [v] [d] := .cons h .nil
theorem DtAll.ints {H : Hp} : ∀ l : List Int, DtAll H (l.map V.int) (l.map PyData.int)
  | [] => .nil
  | x :: r => .cons (.int x) (DtAll.ints r)
theorem DtAll.bls {H : Hp} : ∀ l : List Bool, DtAll H (l.map V.bl) (l.map PyData.bool)
  | [] => .nil
  | x :: r => .cons (.bl x) (DtAll.bls r)
theorem Dt.ints {H : Hp} {a : Addr} {l : List Int} (h : H a = some (.lst (l.map V.int))) : Dt H (.ref a) (.list (l.map PyData.int)) := .lst h (DtAll.ints l)
theorem readsKV {h : Heap} {P : Program} {w : World} : ∀ (kvs : List (Str × Int)) (vs : List (Key × Value)) (es : List DictEntry), KV (kvs.map fun p => ((.inr p.1 : Key), V.int p.2)) vs → PySem.Pairs (mixKind P w) es vs →
    ReadsAll h (es.map (·.key)) ((kvs.map fun p => (PyData.str p.1, PyData.int p.2)).map (·.1)) [] ∧ ReadsAll h (es.map (·.val)) ((kvs.map fun p => (PyData.str p.1, PyData.int p.2)).map (·.2)) []
  | [], _, _, .nil, .nil => ⟨.nil, .nil⟩
  | p :: r, _, _, .cons h1 t1, .cons f1 f2 t2 => by
    obtain ⟨a, b⟩ := readsKV (h := h) r _ _ t1 t2
    obtain ⟨e1, e2⟩ := h1
    skip
    skip
    obtain ⟨t, ht⟩ := e2
    constructor
    · refine ReadsAll.cons (as := []) (bs := []) ?_ a
      rw [← e1] at f1
      have f1 : keyIs (.inr p.1) _ = true := f1
      rcases keyIs_shape f1 with ⟨i, t, z, q⟩ | ⟨x, t, z, q⟩
      · cases z
      · dsimp only
        rw [q]
        cases z
        exact .str _ _
    · refine ReadsAll.cons (as := []) (bs := []) ?_ b
      dsimp only
      rw [f2, ht]
      exact .int _ _
section
variable {X : Cx} {pins : List (Addr × Obj)} {σ : L2.St} {H : Hp} {s : Shared}
mutual
theorem Dt.reads (I : Inv X pins σ H s) : ∀ (d : PyData) (v : V) (u : Value), Dt H v d → RelV v u → ∃ as, Reads s.heap u d as ∧ ((∃ kvs, d = .dict kvs) → sysModules ∉ as)
  | .none, _, _, h, r => by
    cases h
    cases r
    exact ⟨_, Reads.none, fun ⟨_, z⟩ => nomatch z⟩
  | .bool b, _, _, h, r => by
    cases h
    cases r
    exact ⟨_, Reads.bool b, fun ⟨_, z⟩ => nomatch z⟩
  | .int i, _, _, h, r => by
    cases h
    obtain ⟨t, rfl⟩ := r
    exact ⟨_, Reads.int i t, fun ⟨_, z⟩ => nomatch z⟩
  | .str x, _, _, h, r => by
    cases h
    obtain ⟨t, rfl⟩ := r
    exact ⟨_, Reads.str x t, fun ⟨_, z⟩ => nomatch z⟩
  | .list ds, _, _, h, r => by
    cases h with
    | lst hs ha =>
      cases r
      obtain ⟨its, rv, ⟨o, n, ho, hc, _, hd⟩, _⟩ := I.list (X := X) (show SqL X.K H _ _ from .inl (.inl hs))
      obtain ⟨as, hr⟩ := Dt.readsAll I ds _ its ha rv
      exact ⟨_, Reads.list ho hc hd hr, fun ⟨_, z⟩ => nomatch z⟩
  | .tuple ds, _, _, h, r => by
    cases h with
    | tup hs ha =>
      cases r
      obtain ⟨its, rv, ⟨o, ho, hc, n, hd⟩, _⟩ := I.tuple (X := X) (show SqT X.K H _ _ from .inl (.inl hs))
      obtain ⟨as, hr⟩ := Dt.readsAll I ds _ its ha rv
      exact ⟨_, Reads.tuple ho hc hd hr, fun ⟨_, z⟩ => nomatch z⟩
  | .dict ds, _, _, h, r => by
    cases h with
    | dic kvs hs =>
      cases r
      obtain ⟨_, ns, vs, kv, o, es, ep, ho, hx, hd, _, pr, _⟩ := dk_of I.hok hs
      obtain ⟨a, b⟩ := readsKV (h := s.heap) kvs vs es.toList kv pr
      refine ⟨_, Reads.dict ho hx.1 hd a b, fun _ z => ?_⟩
      simp only [List.append_nil, List.mem_singleton] at z
      rw [← z] at ns
      simp at ns
theorem Dt.readsAll (I : Inv X pins σ H s) : ∀ (ds : List PyData) (vs : List V) (us : List Value), DtAll H vs ds → Vals vs us → ∃ as, ReadsAll s.heap us ds as
  | [], _, _, h, r => by
    cases h
    cases r
    exact ⟨_, ReadsAll.nil⟩
  | d :: ds, _, _, h, r => by
    cases h with
    | cons h1 h2 =>
      cases r with
      | cons r1 r2 =>
        obtain ⟨as, q1, _⟩ := Dt.reads I d _ _ h1 r1
        obtain ⟨bs, q2⟩ := Dt.readsAll I ds _ _ h2 r2
        exact ⟨_, ReadsAll.cons q1 q2⟩
end
end
section
variable {X : Cx}
def rEqT : R2 := fun x y H Q => ∃ d e, Dt H x d ∧ Dt H y e ∧ SeqAt.shaped d = true ∧ SeqAt.shaped e = true ∧ Q (.bl (PyData.eqv d e)) H
def rNeT : R2 := fun x y H Q => ∃ d e, Dt H x d ∧ Dt H y e ∧ SeqAt.shaped d = true ∧ SeqAt.shaped e = true ∧ Q (.bl (!PyData.eqv d e)) H
theorem op_eqT (hu : X.A.units + 64 < cLine) : OpR X (compareOp .Eq) rEqT := by
  intro pins s σ H x y v u Q I rx ry h
  obtain ⟨d, e, hd, he, sd, se, q⟩ := h
  obtain ⟨as, r1, _⟩ := Dt.reads I d x v hd rx
  obtain ⟨bs, r2, _⟩ := Dt.reads I e y u he ry
  exact SeqAt.compareEq_shaped r1 r2 sd se hu ⟨.bl _, H, I, rfl, q⟩
theorem op_neT (hu : X.A.units + 64 < cLine) : OpR X (compareOp .NotEq) rNeT := by
  intro pins s σ H x y v u Q I rx ry h
  obtain ⟨d, e, hd, he, sd, se, q⟩ := h
  obtain ⟨as, r1, _⟩ := Dt.reads I d x v hd rx
  obtain ⟨bs, r2, _⟩ := Dt.reads I e y u he ry
  exact SeqAt.compareNe_shaped r1 r2 sd se hu ⟨.bl _, H, I, rfl, q⟩
/-- data whose repr can be told -/
structure Shows (d : PyData) : Prop where
  show_ : d.showable = true
  fits : d.shown.length ≤ sizeLine
  deep : d.depth ≤ 60
  top : d.hasDict = true → ∃ kvs, d = .dict kvs
theorem Nice.shows {d : PyData} (n : Nice d) : Shows d := ⟨(okD_all d n.ok).2.1, n.fits, n.deep, fun z => by rw [(okD_all d n.ok).2.2.1] at z; cases z⟩
theorem shows_empty : Shows (.dict []) := ⟨by decide +kernel, by rw [sizeLine_eq]; decide +kernel, by decide +kernel, fun _ => ⟨_, rfl⟩⟩
/-- repr of data: its text -/
def rReprT : List V → Hp → VK → Prop := fun xs H Q => ∃ (x : V) (d : PyData), xs = [x] ∧ Dt H x d ∧ Shows d ∧ Q (.str d.shown) H
theorem call_reprT (gd : Gd X.A) (hu : X.A.units + 64 < cLine) : CallR X (.builtin "repr") rReprT := by
  intro pins s σ H xs us Q I r h
  obtain ⟨x, d, rfl, dp, nice, q⟩ := h
  have sh := nice.show_
  have sz := nice.fits
  have dep := nice.deep
  obtain ⟨u, rfl, ru⟩ := vals1 r
  obtain ⟨as, rd, nm⟩ := Dt.reads I d x u dp ru
  have hsm : d.hasDict = true → sysModules ∉ as := fun e => nm (nice.top e)
  cases dp with
  | non => cases (show u = Value.none from ru); exact PySem.P.repr_of_none ⟨.str _, H, I.tok _, ⟨_, rfl⟩, q⟩
  | bl b => cases (show u = Value.bool b from ru); exact PySem.P.repr_of_bool ⟨.str _, H, I.tok _, ⟨_, rfl⟩, by simpa only [PyData.shown] using q⟩
  | int i => obtain ⟨t, rfl⟩ := ru; exact PySem.P.repr_of_int (by simpa only [PyData.showable, decide_eq_true_eq] using sh) ⟨.str _, H, I.tok _, ⟨_, rfl⟩, by simpa only [PyData.shown] using q⟩
  | str z => obtain ⟨t, rfl⟩ := ru; exact PySem.P.repr_of_str ⟨.str _, H, I.tok _, ⟨_, rfl⟩, by simpa only [PyData.shown] using q⟩ (by simpa only [PyData.shown] using sz)
  | @lst a xs ds e1 e2 =>
    cases (show u = Value.ref a from ru)
    exact repr_of_reads' rd sh hsm gd (by omega) (fun _ _ e => e) (fun h' u tk hk => ⟨.str _, H, I.kept hk, ⟨_, rfl⟩, q⟩) sz
  | @tup a xs ds e1 e2 =>
    cases (show u = Value.ref a from ru)
    exact repr_of_reads' rd sh hsm gd (by omega) (fun _ _ e => e) (fun h' u tk hk => ⟨.str _, H, I.kept hk, ⟨_, rfl⟩, q⟩) sz
  | @dic a kvs e1 =>
    cases (show u = Value.ref a from ru)
    exact repr_of_reads' rd sh hsm gd (by omega) (fun _ _ e => e) (fun h' u tk hk => ⟨.str _, H, I.kept hk, ⟨_, rfl⟩, q⟩) sz
end
/-! ### what kind data is of -/
def tyN : PyData → String
  | .none => "NoneType"
  | .bool _ => "bool"
  | .int _ => "int"
  | .str _ => "str"
  | .list _ => "list"
  | .tuple _ => "tuple"
  | .dict _ => "dict"
def isInt : PyData → Bool | .int _ => true | .bool _ => true | _ => false
def isBool : PyData → Bool | .bool _ => true | _ => false
def isList : PyData → Bool | .list _ => true | _ => false
def isTuple : PyData → Bool | .tuple _ => true | _ => false
def isStr : PyData → Bool | .str _ => true | _ => false
theorem kit_int (d : PyData) : kitB (tyN d) "int" = some (isInt d) := by cases d <;> kernel_rfl
theorem kit_bool (d : PyData) : kitB (tyN d) "bool" = some (isBool d) := by cases d <;> kernel_rfl
theorem kit_list (d : PyData) : kitB (tyN d) "list" = some (isList d) := by cases d <;> kernel_rfl
theorem kit_tuple (d : PyData) : kitB (tyN d) "tuple" = some (isTuple d) := by cases d <;> kernel_rfl
theorem kit_str (d : PyData) : kitB (tyN d) "str" = some (isStr d) := by cases d <;> kernel_rfl
theorem Dt.ty {K : PySem.W.Frag} {H : Hp} {v : V} {d : PyData} (h : Dt H v d) : TyX K H v (.type (tyN d)) := by
  cases h with
  | non => exact .base .non
  | bl b => exact .base (.bl b)
  | int i => exact .base (.int i)
  | str x => exact .base (.str x)
  | lst e _ => exact .base (.lst e)
  | tup e _ => exact .base (.tup e)
  | dic kvs e => exact .base (.dK e)
section
variable {X : Cx}
/-- isinstance(x, T) of data -/
def rIsD : List V → Hp → VK → Prop := fun xs H Q => ∃ (x : V) (d : PyData) (T : String) (b : Bool), xs = [x, .ty T] ∧ Dt H x d ∧ kitB (tyN d) T = some b ∧ Q (.bl b) H
theorem call_isD : CallR X (.builtin "isinstance") rIsD := by
  intro pins s σ H xs us Q I r h
  obtain ⟨x, d, T, b, rfl, hd, hk, q⟩ := h
  exact call_isi pins s σ H _ us Q I r ⟨x, .ty T, _, _, b, rfl, .ty T, hd.ty, kit_ty hk, q⟩
end
/-! ### sizes -/
structure Bnd (k b : Nat) (d : PyData) : Prop where
  ok : okD d = true
  deep : d.depth ≤ k
  small : d.bulk ≤ b
theorem Bnd.nice {k b : Nat} {d : PyData} (h : Bnd k b d) (hk : k ≤ 60) (hb : b ≤ 262144) : Nice d := ⟨h.ok, Nat.le_trans h.deep hk, Nat.le_trans h.small hb⟩
theorem Bnd.up {k b k' b' : Nat} {d : PyData} (h : Bnd k b d) (hk : k ≤ k') (hb : b ≤ b') : Bnd k' b' d := ⟨h.ok, Nat.le_trans h.deep hk, Nat.le_trans h.small hb⟩
theorem Bnd.non {k b : Nat} : Bnd k b .none := ⟨by simp only [okD], by simp only [PyData.depth]; omega, by simp only [PyData.bulk]; omega⟩
theorem Bnd.bl {k b : Nat} (x : Bool) : Bnd k b (.bool x) := ⟨by simp only [okD], by simp only [PyData.depth]; omega, by simp only [PyData.bulk]; omega⟩
theorem Bnd.int {k b : Nat} {i : Int} (h : i.natAbs < 10 ^ 38) : Bnd k b (.int i) := ⟨by simp only [okD, decide_eq_true_eq]; exact h, by simp only [PyData.depth]; omega, by simp only [PyData.bulk]; omega⟩
theorem okDs_of : ∀ l : List PyData, (∀ x ∈ l, okD x = true) → okDs l = true
  | [], _ => by simp only [okDs]
  | x :: r, h => by
    simp only [okDs, Bool.and_eq_true]
    exact ⟨h x (List.mem_cons_self ..), okDs_of r fun y hy => h y (List.mem_cons_of_mem _ hy)⟩
theorem okDs_mem : ∀ l : List PyData, okDs l = true → ∀ x ∈ l, okD x = true
  | [], _, x, hx => by cases hx
  | y :: r, h, x, hx => by
    have h' : okD y = true ∧ okDs r = true := by simpa only [okDs, Bool.and_eq_true] using h
    rcases List.mem_cons.mp hx with e | e
    · rw [e]; exact h'.1
    · exact okDs_mem r h'.2 x e
theorem depthAll_mem : ∀ l : List PyData, ∀ x ∈ l, x.depth ≤ PyData.depthAll l
  | [], x, hx => by cases hx
  | y :: r, x, hx => by
    simp only [PyData.depthAll]
    rcases List.mem_cons.mp hx with e | e
    · rw [e]; omega
    · have := depthAll_mem r x e
      omega
theorem bulkAll_mem : ∀ l : List PyData, ∀ x ∈ l, x.bulk ≤ PyData.bulkAll l
  | [], x, hx => by cases hx
  | y :: r, x, hx => by
    simp only [PyData.bulkAll]
    rcases List.mem_cons.mp hx with e | e
    · rw [e]; omega
    · have := bulkAll_mem r x e
      omega
theorem Bnd.list {k b n c : Nat} {ds : List PyData} (h : ∀ x ∈ ds, Bnd k b x) (hl : ds.length ≤ n) (hc : n * (b + 1) ≤ c) : Bnd (k + 1) c (.list ds) := by
  refine ⟨?_, ?_, ?_⟩
  · simp only [okD]
    exact okDs_of ds fun x hx => (h x hx).ok
  · have := depthAll_le (n := k) ds fun x hx => (h x hx).deep
    simp only [PyData.depth]; omega
  · have := bulkAll_le (n := b) ds fun x hx => (h x hx).small
    have := Nat.mul_le_mul_right (b + 1) hl
    simp only [PyData.bulk]; omega
theorem Bnd.tuple {k b n c : Nat} {ds : List PyData} (h : ∀ x ∈ ds, Bnd k b x) (hl : ds.length ≤ n) (hc : n * (b + 1) ≤ c) : Bnd (k + 1) c (.tuple ds) := by
  refine ⟨?_, ?_, ?_⟩
  · simp only [okD]
    exact okDs_of ds fun x hx => (h x hx).ok
  · have := depthAll_le (n := k) ds fun x hx => (h x hx).deep
    simp only [PyData.depth]; omega
  · have := bulkAll_le (n := b) ds fun x hx => (h x hx).small
    have := Nat.mul_le_mul_right (b + 1) hl
    simp only [PyData.bulk]; omega
theorem Nice.listMem {ds : List PyData} (h : Nice (.list ds)) : ∀ x ∈ ds, Nice x := fun x hx => by
  obtain ⟨a, b, c⟩ := h
  have a' : okDs ds = true := by simpa only [okD] using a
  have e1 := depthAll_mem ds x hx
  have e2 := bulkAll_mem ds x hx
  simp only [PyData.depth] at b
  simp only [PyData.bulk] at c
  exact ⟨okDs_mem ds a' x hx, by omega, by omega⟩
theorem Nice.tupMem {ds : List PyData} (h : Nice (.tuple ds)) : ∀ x ∈ ds, Nice x := fun x hx => by
  obtain ⟨a, b, c⟩ := h
  have a' : okDs ds = true := by simpa only [okD] using a
  have e1 := depthAll_mem ds x hx
  have e2 := bulkAll_mem ds x hx
  simp only [PyData.depth] at b
  simp only [PyData.bulk] at c
  exact ⟨okDs_mem ds a' x hx, by omega, by omega⟩
end Hw
namespace Hw
open PySem PySem.Spec PyProof.Rows L2
/-- a turn of a comprehension: the list so far is f 0, .., f (i - 1) -/
theorem lcS {H1 H' : Hp} {D : Addr} {f : Nat → V} {i : Nat} (hD : H1 D = none) (s : Same H1 H') (e : H' D = some (.lst ((List.range i).map f))) (hz : i ≤ 1000000) :
    ∃ acc, H' D = some (.lst acc) ∧ acc.length < sizeLine ∧ Same H1 (upd H' D (.lst (acc ++ [f i]))) ∧ (upd H' D (.lst (acc ++ [f i]))) D = some (.lst ((List.range (i + 1)).map f)) := by
  refine ⟨_, e, ?_, fun b o hb => ?_, ?_⟩
  · rw [List.length_map, List.length_range, sizeLine_eq]; omega
  · rw [upd_ne (ne_of_none hb hD)]
    exact s b o hb
  · rw [upd_same, List.range_succ, List.map_append]
    rfl
theorem range_get {α : Type} (l : List α) (f : α → V) (g : Nat → V) (h : ∀ i x, l[i]? = some x → g i = f x) : (List.range l.length).map g = l.map f := by
  apply List.ext_getElem?
  intro i
  rw [List.getElem?_map, List.getElem?_map]
  by_cases hi : i < l.length
  · rw [List.getElem?_range hi, List.getElem?_eq_getElem hi]
    exact congrArg some (h i _ (List.getElem?_eq_getElem hi))
  · rw [List.getElem?_eq_none (by rw [List.length_range]; omega), List.getElem?_eq_none (by omega)]
    rfl
/-- the same, told of the list's members -/
theorem range_mem {α : Type} {xs : List V} {l : List α} (f : α → V) (g : Nat → V) (hl : xs.length = l.length) (h : ∀ i x, l[i]? = some x → g i = f x) : (List.range xs.length).map g = l.map f := by
  rw [hl]
  exact range_get l f g h
end Hw
namespace Hw
open PySem PySem.Spec PyProof.Rows L2
/-- the answer about the member at i -/
def atF {α : Type} (l : List α) (g : α → Bool) (i : Nat) : Bool := match l[i]? with
  | some y => g y
  | none => false
theorem atF_at {α : Type} {l : List α} {g : α → Bool} {i : Nat} {y : α} (h : l[i]? = some y) : atF l g i = g y := by
  unfold atF
  rw [h]
theorem all_atF {α : Type} (l : List α) (g : α → Bool) : ((List.range l.length).map (atF l g)).all id = l.all g := by
  rw [Bool.eq_iff_iff, List.all_eq_true, List.all_eq_true]
  constructor
  · intro h y hy
    obtain ⟨i, hi, e⟩ := List.getElem_of_mem hy
    have h2 := h (atF l g i) (List.mem_map.mpr ⟨i, List.mem_range.mpr hi, rfl⟩)
    rw [atF_at (List.getElem?_eq_getElem hi), e] at h2
    exact h2
  · intro h b hb
    obtain ⟨i, hi, rfl⟩ := List.mem_map.mp hb
    have hi := List.mem_range.mp hi
    rw [atF_at (List.getElem?_eq_getElem hi)]
    exact h _ (List.getElem_mem hi)
theorem vi {a b : Int} : decide (V.int a = V.int b) = decide (a = b) := by
  by_cases h : a = b
  · rw [h, decide_eq_true rfl, decide_eq_true rfl]
  · rw [decide_eq_false h, decide_eq_false fun z => h (by cases z; rfl)]
theorem vs_eq {a b : Str} : decide (V.str a = V.str b) = decide (a = b) := by
  by_cases h : a = b
  · rw [h, decide_eq_true rfl, decide_eq_true rfl]
  · rw [decide_eq_false h, decide_eq_false fun z => h (by cases z; rfl)]
theorem shaped_list {fs : List PyData} (h : ∀ x ∈ fs, Nice x) : SeqAt.shaped (.list fs) = true := by
  have h1 : PyData.canLayAll0 fs = true := (okDs_all fs (okDs_of fs fun x hx => (h x hx).ok)).1
  have h2 := depthAll_le (n := 60) fs fun x hx => (h x hx).deep
  have h3 : PyData.canLay0 (.list fs) = true := by simp only [PyData.canLay0]; exact h1
  have h4 : PyData.depth (.list fs) ≤ 64 := by simp only [PyData.depth]; omega
  show (PyData.canLay0 (.list fs) && decide (PyData.depth (.list fs) ≤ 64)) = true
  rw [h3, decide_eq_true h4]
  rfl
theorem eqv_nil (fs : List PyData) : PyData.eqv (.list fs) (.list []) = fs.isEmpty := by cases fs <;> simp [PyData.eqv, PyData.eqvAll]
theorem shaped_nil : SeqAt.shaped (.list []) = true := shaped_list fun x hx => nomatch hx
end Hw

/-! ### the rules with the written part named -/
namespace Hw
open PySem PySem.Spec PyProof.Rows L2
section
variable {X : Cx} {K : PySem.W.Frag}
def rLenK (K : PySem.W.Frag) : List V → Hp → VK → Prop := fun xs H Q => ∃ p ys, xs = [.ref p] ∧ (SqL K H p ys ∨ SqT K H p ys) ∧ Q (.int ys.length) H
theorem call_lenK (h : X.K = K) : CallR X (.builtin "len") (rLenK K) := by subst h; exact call_len_seq
theorem cr_allK (h : X.K = K) (hc : X.calm = true) : CallR X (.builtin "all") (rAll K) := by subst h; exact cr_all hc
theorem cr_sumK (h : X.K = K) (hc : X.calm = true) : CallR X (.builtin "sum") (rSum K) := by subst h; exact cr_sum hc
def rListK (K : PySem.W.Frag) : List V → Hp → VK → Prop := fun xs H Q => ∃ p ys, xs = [.ref p] ∧ (SqL K H p ys ∨ SqT K H p ys) ∧ ∀ l, H l = none → Q (.ref l) (upd H l (.lst ys))
theorem call_listK (h : X.K = K) : CallR X (.type "list") (rListK K) := by subst h; exact call_list_of
def rTupK (K : PySem.W.Frag) : List V → Hp → VK → Prop := fun xs H Q => ∃ p ys, xs = [.ref p] ∧ ((SqL K H p ys ∧ ∀ l, H l = none → Q (.ref l) (upd H l (.tup ys))) ∨ (SqT K H p ys ∧ Q (.ref p) H))
theorem call_tupK (h : X.K = K) : CallR X (.type "tuple") (rTupK K) := by subst h; exact call_tuple_of
theorem ix_listK (h : X.K = K) : IxR X (rIxL K) := by subst h; exact ix_list
theorem ix_tupK (h : X.K = K) : IxR X (rIxT K) := by subst h; exact ix_tup
theorem sl_listK (h : X.K = K) : SlR X (rSlL K) := by subst h; exact sl_list
theorem sl_tupK (h : X.K = K) : SlR X (rSlA K) := by subst h; exact sl_tupA
end
end Hw
namespace Hw
open PySem PySem.Spec PyProof.Rows L2
/-! ### the heap but for one place -/
def off (a : Addr) (H : Hp) : Hp := fun b => if b = a then none else H b
theorem off_ne {a b : Addr} {H : Hp} (h : b ≠ a) : off a H b = H b := if_neg h
theorem off_at {a b : Addr} {H : Hp} {o : HO} (h : off a H b = some o) : b ≠ a ∧ H b = some o := by
  unfold off at h
  by_cases e : b = a
  · rw [if_pos e] at h; cases h
  · rw [if_neg e] at h; exact ⟨e, h⟩
theorem off_same {a : Addr} {H : Hp} : Same (off a H) H := fun _ _ h => (off_at h).2
theorem SameX.off {a : Addr} {H H' : Hp} (e : SameX a H H') : Same (off a H) (off a H') := fun b o h => by
  obtain ⟨n, h⟩ := off_at h
  rw [off_ne n]
  exact e b o n h
theorem off_of {a b : Addr} {H : Hp} {o : HO} (n : b ≠ a) (h : H b = some o) : off a H b = some o := by rw [off_ne n]; exact h
theorem Dt.on {a : Addr} {H : Hp} {v : V} {d : PyData} (h : Dt (off a H) v d) : Dt H v d := h.to off_same
/-! ### lists of numbers -/
abbrev natV (l : List Nat) : List V := l.map fun (x : Nat) => V.int (x : Int)
abbrev natD (l : List Nat) : List PyData := l.map fun (x : Nat) => PyData.int (x : Int)
theorem DtAll.nats {H : Hp} : ∀ l : List Nat, DtAll H (natV l) (natD l)
  | [] => .nil
  | x :: r => .cons (.int x) (DtAll.nats r)
theorem DtAll.nats_inv {H : Hp} : ∀ (l : List Nat) (vs : List V), DtAll H vs (natD l) → vs = natV l
  | [], _, h => by cases h; rfl
  | x :: r, _, h => by
    cases h with
    | cons h1 h2 =>
      cases h1
      rw [DtAll.nats_inv r _ h2]
      rfl
theorem DtAll.bls_inv {H : Hp} : ∀ (l : List Bool) (vs : List V), DtAll H vs (l.map PyData.bool) → vs = l.map V.bl
  | [], _, h => by cases h; rfl
  | x :: r, _, h => by
    cases h with
    | cons h1 h2 =>
      cases h1
      rw [DtAll.bls_inv r _ h2]
      rfl
theorem Dt.nats {H : Hp} {a : Addr} {l : List Nat} (h : H a = some (.lst (natV l))) : Dt H (.ref a) (.list (natD l)) := .lst h (DtAll.nats l)
theorem nat_get {l : List Nat} {i : Nat} {x : V} (h : (natV l)[i]? = some x) : ∃ b : Nat, l[i]? = some b ∧ V.int (b : Int) = x := by
  rw [List.getElem?_map] at h
  exact Option.map_eq_some_iff.mp h
theorem nat_at {l : List Nat} {i b : Nat} (h : l[i]? = some b) : (natV l)[i]? = some (V.int (b : Int)) := by
  rw [List.getElem?_map, h]
  rfl
theorem Bnd.nats {l : List Nat} {n c : Nat} (h : ∀ x ∈ l, x < 10 ^ 38) (hl : l.length ≤ n) (hc : n ≤ c) : Bnd 1 c (.list (natD l)) := by
  refine Bnd.list (k := 0) (b := 0) (n := n) (fun d hd => ?_) (by rw [List.length_map]; exact hl) (by omega)
  obtain ⟨x, hx, rfl⟩ := List.mem_map.mp hd
  exact .int (by have := h x hx; omega)
/-! ### bits in columns -/
def bitN (x p : Nat) : Nat := x / 2 ^ p % 2
def worthN : List Nat → Nat
  | [] => 0
  | b :: r => b + 2 * worthN r
theorem worthN_add : ∀ (l : List Nat) (b : Nat), worthN (l ++ [b]) = worthN l + b * 2 ^ l.length
  | [], b => by show b + 2 * 0 = 0 + b * 1; omega
  | c :: r, b => by
    show c + 2 * worthN (r ++ [b]) = c + 2 * worthN r + b * 2 ^ (r.length + 1)
    rw [worthN_add r b, Nat.pow_succ, Nat.mul_add, ← Nat.mul_assoc b, Nat.mul_comm _ 2]
    omega
theorem worthN_lt : ∀ l : List Nat, (∀ b ∈ l, b < 2) → worthN l < 2 ^ l.length
  | [], _ => by show 0 < 1; omega
  | c :: r, h => by
    have h1 := h c (List.mem_cons_self ..)
    have h2 := worthN_lt r fun b hb => h b (List.mem_cons_of_mem _ hb)
    show c + 2 * worthN r < 2 ^ (r.length + 1)
    rw [Nat.pow_succ]
    omega
theorem bitN_lt (x p : Nat) : bitN x p < 2 := Nat.mod_lt _ (by decide)
theorem bitN_worth : ∀ (l : List Nat) (i : Nat), (∀ b ∈ l, b < 2) → bitN (worthN l) i = l.getD i 0
  | [], i, _ => by
    show 0 / 2 ^ i % 2 = ([] : List Nat).getD i 0
    rw [Nat.zero_div]
    rfl
  | c :: r, 0, h => by
    have h1 := h c (List.mem_cons_self ..)
    show (c + 2 * worthN r) / 2 ^ 0 % 2 = c
    rw [Nat.pow_zero, Nat.div_one]
    omega
  | c :: r, i + 1, h => by
    have h1 := h c (List.mem_cons_self ..)
    have ih := bitN_worth r i fun b hb => h b (List.mem_cons_of_mem _ hb)
    show (c + 2 * worthN r) / 2 ^ (i + 1) % 2 = r.getD i 0
    rw [Nat.pow_succ, Nat.mul_comm (2 ^ i) 2, ← Nat.div_div_eq_div_mul, show (c + 2 * worthN r) / 2 = worthN r by omega]
    exact ih
theorem worthN_bits (x : Nat) : ∀ n : Nat, worthN ((List.range n).map (bitN x)) = x % 2 ^ n
  | 0 => by rw [Nat.pow_zero, Nat.mod_one]; rfl
  | n + 1 => by
    rw [List.range_succ, List.map_append, List.map_cons, List.map_nil, worthN_add, worthN_bits x n, List.length_map, List.length_range, Nat.mod_pow_succ, Nat.mul_comm]; rfl
/-- the p-th bits of all -/
def col (l : List Nat) (p : Nat) : Nat := worthN (l.map fun x => bitN x p)
def tr (n : Nat) (l : List Nat) : List Nat := (List.range n).map (col l)
theorem col_bits (l : List Nat) (p : Nat) : ∀ b ∈ l.map fun x => bitN x p, b < 2 := fun b hb => by
  obtain ⟨x, _, rfl⟩ := List.mem_map.mp hb
  exact bitN_lt x p
theorem col_lt (l : List Nat) (p : Nat) : col l p < 2 ^ l.length := by
  have := worthN_lt _ (col_bits l p)
  rw [List.length_map] at this
  exact this
theorem tr_len (n : Nat) (l : List Nat) : (tr n l).length = n := by unfold tr; rw [List.length_map, List.length_range]
theorem tr_lt {n : Nat} {l : List Nat} : ∀ x ∈ tr n l, x < 2 ^ l.length := fun x hx => by
  obtain ⟨p, _, rfl⟩ := List.mem_map.mp hx
  exact col_lt l p
theorem tr_tr {n : Nat} {l : List Nat} (h : ∀ x ∈ l, x < 2 ^ n) : tr l.length (tr n l) = l := by
  apply List.ext_getElem?
  intro i
  unfold tr
  rw [List.getElem?_map]
  by_cases hi : i < l.length
  · rw [List.getElem?_range hi, List.getElem?_eq_getElem hi]
    show some (col ((List.range n).map (col l)) i) = some l[i]
    unfold col
    rw [List.map_map]
    have e : (List.range n).map ((fun x => bitN x i) ∘ fun p => worthN (l.map fun x => bitN x p)) = (List.range n).map (bitN l[i]) := by
      apply List.map_congr_left
      intro p _
      show bitN (worthN (l.map fun x => bitN x p)) i = bitN l[i] p
      rw [bitN_worth _ _ (col_bits l p), List.getD_eq_getElem?_getD, List.getElem?_map, List.getElem?_eq_getElem hi]
      rfl
    rw [e, worthN_bits, Nat.mod_eq_of_lt (h _ (List.getElem_mem hi))]
  · rw [List.getElem?_eq_none (by rw [List.length_range]; omega), List.getElem?_eq_none (by omega)]
    rfl
theorem col_take {l : List Nat} {i x : Nat} (p : Nat) (h : l[i]? = some x) : col (l.take (i + 1)) p = col (l.take i) p + bitN x p * 2 ^ i := by
  unfold col
  have hi : i < l.length := (List.getElem?_eq_some_iff.mp h).1
  rw [List.take_add_one, h, List.map_append]
  show worthN (_ ++ [bitN x p]) = _
  rw [worthN_add, List.length_map, List.length_take, Nat.min_eq_left (by omega)]
/-! ### tables -/
structure Tb where
  many : Nat
  steps : List (List Nat)
  ends : List Bool
def Tb.d (t : Tb) : PyData := .tuple [.int (t.many : Int), .list (t.steps.map fun l => .list (natD l)), .list (t.ends.map .bool)]
structure Tb.Good (t : Tb) : Prop where
  many : t.many ≤ 6
  some : 0 < t.steps.length
  same : t.ends.length = t.steps.length
  line : ∀ l ∈ t.steps, l.length = 2 ^ t.many
  stand : ∀ l ∈ t.steps, ∀ x ∈ l, x < t.steps.length
def Tb.next (t : Tb) (s c : Nat) : Nat := (t.steps.getD s []).getD c 0
def Tb.behind (t : Tb) (l : List Nat) : Nat := l.foldl t.next 0
theorem Tb.Good.next {t : Tb} (g : t.Good) {s c : Nat} (hs : s < t.steps.length) (hc : c < 2 ^ t.many) : ∃ l, t.steps[s]? = Option.some l ∧ l[c]? = Option.some (t.next s c) ∧ t.next s c < t.steps.length := by
  have e := List.getElem?_eq_getElem hs
  have hl := g.line _ (List.getElem_mem hs)
  have hc' : c < (t.steps[s]).length := by omega
  have e2 := List.getElem?_eq_getElem hc'
  have en : t.next s c = t.steps[s][c] := by
    unfold Tb.next
    rw [List.getD_eq_getElem?_getD, List.getD_eq_getElem?_getD, e, Option.getD_some, e2]
    rfl
  exact ⟨_, e, by rw [en]; exact e2, by rw [en]; exact g.stand _ (List.getElem_mem hs) _ (List.getElem_mem hc')⟩
theorem Tb.Good.behind {t : Tb} (g : t.Good) : ∀ (l : List Nat) (s : Nat), s < t.steps.length → (∀ x ∈ l, x < 2 ^ t.many) → l.foldl t.next s < t.steps.length
  | [], s, hs, _ => hs
  | c :: r, s, hs, h => by
    obtain ⟨_, _, _, h3⟩ := g.next hs (h c (List.mem_cons_self ..))
    exact g.behind r _ h3 fun x hx => h x (List.mem_cons_of_mem _ hx)
theorem Tb.behind_take {t : Tb} {l : List Nat} {i c : Nat} (h : l[i]? = some c) : t.behind (l.take (i + 1)) = t.next (t.behind (l.take i)) c := by
  unfold Tb.behind
  rw [List.take_add_one, h, List.foldl_append]
  rfl
/-- where the table's parts stand -/
theorem Dt.tab {H : Hp} {x : V} {t : Tb} (h : Dt H x t.d) : ∃ (a b c : Addr) (ys : List V), x = .ref a ∧ H a = some (.tup [.int (t.many : Int), .ref b, .ref c]) ∧ H b = some (.lst ys) ∧ ys.length = t.steps.length ∧
    (∀ (i : Nat) (l : List Nat), t.steps[i]? = some l → ∃ r : Addr, ys[i]? = some (V.ref r) ∧ H r = some (.lst (natV l))) ∧ H c = some (.lst (t.ends.map V.bl)) ∧ DtAll H ys (t.steps.map fun l => .list (natD l)) := by
  unfold Tb.d at h
  cases h with
  | @tup a xs ds ha hs =>
  cases hs with
  | cons hm hs =>
  cases hs with
  | cons hst hs =>
  cases hs with
  | cons hen hs =>
  cases hs with
  | nil =>
  cases hm
  cases hst with
  | @lst b ys ss hb hss =>
  cases hen with
  | @lst c zs es hc hes =>
  have e := DtAll.bls_inv _ _ hes
  subst e
  have hl : ys.length = t.steps.length := by rw [hss.len, List.length_map]
  refine ⟨a, b, c, ys, rfl, ha, hb, hl, fun i l hi => ?_, hc, hss⟩
  have il : i < ys.length := by rw [hl]; exact (List.getElem?_eq_some_iff.mp hi).1
  obtain ⟨d, hd, hy⟩ := hss.get i _ (List.getElem?_eq_getElem il)
  rw [List.getElem?_map, hi] at hd
  cases hd
  generalize hz : ys[i] = z at hy
  cases hy with
  | @lst r qs _ hr hq =>
    have e := DtAll.nats_inv _ _ hq
    subst e
    exact ⟨r, by rw [List.getElem?_eq_getElem il, hz], hr⟩
end Hw
namespace Hw
open PySem PySem.Spec PyProof.Rows L2
/-! ### a comprehension with a test -/
def Flt (ds : List PyData) (p : PyData → Bool) (H1 : Hp) (D : Addr) (i : Nat) (H' : Hp) : Prop := Same H1 H' ∧ ∃ vs, H' D = some (.lst vs) ∧ DtAll H1 vs ((ds.take i).filter p) ∧ vs.length ≤ i
theorem Flt.start {ds : List PyData} {p : PyData → Bool} {H1 : Hp} {D : Addr} (hD : H1 D = none) : Flt ds p H1 D 0 (upd H1 D (.lst [])) := ⟨same_new' hD, [], upd_same, .nil, Nat.le_refl _⟩
theorem Flt.keep {ds : List PyData} {p : PyData → Bool} {H1 H' : Hp} {D : Addr} {i : Nat} {d : PyData} {y : V} (f : Flt ds p H1 D i H') (hD : H1 D = none) (hi : ds[i]? = some d) (hp : p d = true) (hy : Dt H1 y d) (hz : i ≤ 1000000) :
    ∃ acc, H' D = some (.lst acc) ∧ acc.length < sizeLine ∧ Flt ds p H1 D (i + 1) (upd H' D (.lst (acc ++ [y]))) := by
  obtain ⟨s, vs, e, hv, hl⟩ := f
  refine ⟨vs, e, by rw [sizeLine_eq]; omega, fun b o hb => ?_, vs ++ [y], upd_same, ?_, by rw [List.length_append]; show vs.length + 1 ≤ i + 1; omega⟩
  · rw [upd_ne (ne_of_none hb hD)]
    exact s b o hb
  · rw [List.take_add_one, hi, List.filter_append]
    refine hv.app ?_
    show DtAll H1 [y] (List.filter p [d])
    rw [List.filter_cons_of_pos hp]
    exact .cons hy .nil
theorem Flt.skip {ds : List PyData} {p : PyData → Bool} {H1 H' : Hp} {D : Addr} {i : Nat} {d : PyData} (f : Flt ds p H1 D i H') (hi : ds[i]? = some d) (hp : p d = false) : Flt ds p H1 D (i + 1) H' := by
  obtain ⟨s, vs, e, hv, hl⟩ := f
  refine ⟨s, vs, e, ?_, by omega⟩
  rw [List.take_add_one, hi, List.filter_append]
  show DtAll H1 vs (_ ++ List.filter p [d])
  rw [List.filter_cons_of_neg (by rw [hp]; exact Bool.false_ne_true), List.filter_nil, List.append_nil]
  exact hv
theorem Flt.done {ds : List PyData} {p : PyData → Bool} {H1 H' : Hp} {D : Addr} {n : Nat} (f : Flt ds p H1 D n H') (hn : n = ds.length) : Same H1 H' ∧ Dt H' (.ref D) (.list (ds.filter p)) := by
  obtain ⟨s, vs, e, hv, hl⟩ := f
  subst hn
  rw [List.take_length] at hv
  exact ⟨s, .lst e (hv.to s)⟩
theorem filter_none {α : Type} (p : α → Bool) : ∀ l : List α, (l.filter fun x => !p x).isEmpty = l.all p
  | [] => rfl
  | x :: r => by
    rw [List.all_cons, ← filter_none p r]
    cases h : p x with
    | true => rw [List.filter_cons_of_neg (by rw [h]; exact Bool.false_ne_true)]; rfl
    | false => rw [List.filter_cons_of_pos (by rw [h]; rfl)]; rfl
/-- .. != [] of such a list -/
theorem ne_nil {H' : Hp} {E : Addr} {x : V} {ds : List PyData} {p : PyData → Bool} {Q : VK} (hx : Dt H' x (.list (ds.filter p))) (hE : H' E = none) (nd : ∀ d ∈ ds, Nice d) (h : Q (.bl (!(ds.filter p).isEmpty)) (upd H' E (.lst []))) : rNeT x (.ref E) (upd H' E (.lst [])) Q := by
  refine ⟨_, .list [], hx.to (same_new' hE), .lst upd_same .nil, shaped_list fun d hd => nd d (List.mem_filter.mp hd).1, shaped_nil, ?_⟩
  rw [eqv_nil]
  exact h
end Hw

set_option Elab.async false
set_option linter.all false
set_option maxRecDepth 100000
set_option maxHeartbeats 4000000
/-! expressions that only lay new data: what they give, without their places -/
namespace Hw
open PySem PySem.Spec PyProof.Rows L2
/-- the heap without some places -/
def offs (l : List Addr) (H : Hp) : Hp := fun b => if b ∈ l then none else H b
theorem offs_at {l : List Addr} {b : Addr} {H : Hp} {o : HO} (h : offs l H b = some o) : b ∉ l ∧ H b = some o := by
  unfold offs at h
  by_cases e : b ∈ l
  · rw [if_pos e] at h; cases h
  · rw [if_neg e] at h; exact ⟨e, h⟩
theorem offs_of {l : List Addr} {b : Addr} {H : Hp} {o : HO} (n : b ∉ l) (h : H b = some o) : offs l H b = some o := by
  unfold offs
  rw [if_neg n]
  exact h
theorem offs_same {l : List Addr} {H : Hp} : Same (offs l H) H := fun _ _ h => (offs_at h).2
theorem offs_mono {l : List Addr} {H H' : Hp} (e : Same H H') : Same (offs l H) (offs l H') := fun b o h => by
  obtain ⟨n, h⟩ := offs_at h
  exact offs_of n (e b o h)
theorem offs_one {a : Addr} {H : Hp} : off a H = offs [a] H := by
  funext b
  unfold off offs
  by_cases h : b = a
  · rw [if_pos h, if_pos (by rw [h]; exact List.mem_singleton.mpr rfl)]
  · rw [if_neg h, if_neg fun z => h (List.mem_singleton.mp z)]
/-- a write at a hidden place -/
theorem offs_upd {l : List Addr} {F : Addr} {H : Hp} {o : HO} (h : F ∈ l) : offs l (upd H F o) = offs l H := by
  funext b
  unfold offs
  by_cases e : b ∈ l
  · rw [if_pos e, if_pos e]
  · rw [if_neg e, if_neg e, upd_ne fun z => e (by rw [z]; exact h)]
/-- what the work rests on: it stays while new things are laid -/
structure Stb (l : List Addr) (S : Hp → Prop) : Prop where
  keep : ∀ H H', S H → Same H H' → S H'
  new : ∀ H p, S H → H p = none → p ∉ l
abbrev Fi := V → Hp → Prop
def Ev (S : Hp → Prop) (φ : Fi) (te : TE) (σ : L2.St) : Prop := ∀ H Q, S H → (∀ x H', Same H H' → φ x H' → Q x H') → te σ H Q
def Eva (S : Hp → Prop) (Φ : List V → Hp → Prop) (ta : TA) (σ : L2.St) : Prop := ∀ H Q, S H → (∀ xs H', Same H H' → Φ xs H' → Q xs H') → ta σ H Q
def Evo (S : Hp → Prop) (to : TO) (σ : L2.St) : Prop := ∀ H (Q : Option Int → Hp → Prop), S H → (∀ x H', Same H H' → Q x H') → to σ H Q
/-- data; a list, a tuple of data; data one by one -/
def D (l : List Addr) (P : PyData → Prop) : Fi := fun x H => ∃ d, Dt (offs l H) x d ∧ P d
def LD (l : List Addr) (P : PyData → Prop) (n : Nat) : Fi := fun x H => ∃ p vs ds, x = .ref p ∧ offs l H p = some (.lst vs) ∧ DtAll (offs l H) vs ds ∧ (∀ d ∈ ds, P d) ∧ ds.length ≤ n
def TD (l : List Addr) (P : PyData → Prop) (n : Nat) : Fi := fun x H => ∃ p vs ds, x = .ref p ∧ offs l H p = some (.tup vs) ∧ DtAll (offs l H) vs ds ∧ (∀ d ∈ ds, P d) ∧ ds.length ≤ n
def AD (l : List Addr) (P : PyData → Prop) (n : Nat) : List V → Hp → Prop := fun xs H => ∃ ds, DtAll (offs l H) xs ds ∧ (∀ d ∈ ds, P d) ∧ ds.length ≤ n
section
variable {l : List Addr} {P : PyData → Prop} {k b n k' b' n' : Nat} {S : Hp → Prop} {σ : L2.St} {K : PySem.W.Frag}
theorem D.same {x : V} {H H' : Hp} (h : D l P x H) (e : Same H H') : D l P x H' := by
  obtain ⟨d, hd, hb⟩ := h
  exact ⟨d, hd.to (offs_mono e), hb⟩
theorem D.up {x : V} {H : Hp} (h : D l (Bnd k b) x H) (hk : k ≤ k') (hb : b ≤ b') : D l (Bnd k' b') x H := by
  obtain ⟨d, hd, h2⟩ := h
  exact ⟨d, hd, h2.up hk hb⟩
theorem LD.same {x : V} {H H' : Hp} (h : LD l P n x H) (e : Same H H') : LD l P n x H' := by
  obtain ⟨p, vs, ds, rfl, h1, h2, h3, h4⟩ := h
  exact ⟨p, vs, ds, rfl, offs_mono e _ _ h1, h2.to (offs_mono e), h3, h4⟩
theorem LD.d {x : V} {H : Hp} (h : LD l (Bnd k b) n x H) : D l (Bnd (k + 1) (n * (b + 1))) x H := by
  obtain ⟨p, vs, ds, rfl, h1, h2, h3, h4⟩ := h
  exact ⟨.list ds, .lst h1 h2, Bnd.list h3 h4 (Nat.le_refl _)⟩
theorem TD.d {x : V} {H : Hp} (h : TD l (Bnd k b) n x H) : D l (Bnd (k + 1) (n * (b + 1))) x H := by
  obtain ⟨p, vs, ds, rfl, h1, h2, h3, h4⟩ := h
  exact ⟨.tuple ds, .tup h1 h2, Bnd.tuple h3 h4 (Nat.le_refl _)⟩
theorem LD.up {x : V} {H : Hp} (h : LD l (Bnd k b) n x H) (hk : k ≤ k') (hb : b ≤ b') (hn : n ≤ n') : LD l (Bnd k' b') n' x H := by
  obtain ⟨p, vs, ds, rfl, h1, h2, h3, h4⟩ := h
  exact ⟨p, vs, ds, rfl, h1, h2, fun d hd => (h3 d hd).up hk hb, by omega⟩
theorem Ev.mono {φ ψ : Fi} {te : TE} (h : Ev S φ te σ) (m : ∀ x H, φ x H → ψ x H) : Ev S ψ te σ := fun H Q s q => h H Q s fun x H' e p => q x H' e (m x H' p)
theorem Ev.du {te : TE} (h : Ev S (D l (Bnd k b)) te σ) (hk : k ≤ k' := by decide) (hb : b ≤ b' := by decide) : Ev S (D l (Bnd k' b')) te σ := h.mono fun _ _ p => p.up hk hb
theorem Ev.ld {te : TE} (h : Ev S (LD l (Bnd k b) n) te σ) (hk : k + 1 ≤ k' := by decide) (hb : n * (b + 1) ≤ b' := by decide) : Ev S (D l (Bnd k' b')) te σ := h.mono fun _ _ p => p.d.up hk hb
theorem Ev.td {te : TE} (h : Ev S (TD l (Bnd k b) n) te σ) (hk : k + 1 ≤ k' := by decide) (hb : n * (b + 1) ≤ b' := by decide) : Ev S (D l (Bnd k' b')) te σ := h.mono fun _ _ p => p.d.up hk hb
theorem Ev.lu {te : TE} (h : Ev S (LD l (Bnd k b) n) te σ) (hk : k ≤ k' := by decide) (hb : b ≤ b' := by decide) (hn : n ≤ n' := by decide) : Ev S (LD l (Bnd k' b') n') te σ := h.mono fun _ _ p => p.up hk hb hn
/-! constants, names -/
theorem Ev.non : Ev S (D l (Bnd k b)) (tC .non) σ := fun H Q _ q => q _ H (Same.refl H) ⟨_, .non, .non⟩
theorem Ev.bl (x : Bool) : Ev S (D l (Bnd k b)) (tC (.bl x)) σ := fun H Q _ q => q _ H (Same.refl H) ⟨_, .bl x, .bl x⟩
theorem Ev.int (i : Int) (h : i.natAbs < 10 ^ 38 := by decide) : Ev S (D l (Bnd k b)) (tC (.int i)) σ := fun H Q _ q => q _ H (Same.refl H) ⟨_, .int i, .int h⟩
theorem Bnd.str {x : Str} (h : okD (.str x) = true) (hb : x.cps.size ≤ b) : Bnd k b (.str x) := ⟨h, by simp only [PyData.depth]; omega, by simp only [PyData.bulk]; omega⟩
theorem Ev.str (x : Str) (h : okD (.str x) = true := by decide +kernel) (hb : x.cps.size ≤ b := by decide +kernel) : Ev S (D l (Bnd k b)) (tC (.str x)) σ := fun H Q _ q => q _ H (Same.refl H) ⟨_, .str x, .str h hb⟩
theorem Ev.var {φ : Fi} {i : Nat} {x : V} (h : σ[i]? = some (some x)) (hx : ∀ H, S H → φ x H) : Ev S φ (tVar i) σ := fun H Q s q => ⟨x, h, q x H (Same.refl H) (hx H s)⟩
/-! lists, tuples -/
theorem Eva.nil : Eva S (AD l P 0) tNil σ := fun H Q _ q => q _ H (Same.refl H) ⟨[], .nil, (fun _ h => nomatch h), Nat.le_refl _⟩
theorem Eva.cons (st : Stb l S) {te : TE} {ta : TA} (h : Ev S (D l P) te σ) (r : Eva S (AD l P n) ta σ) : Eva S (AD l P (n + 1)) (tCons te ta) σ := fun H Q s q => by
  refine h H _ s fun x H1 e1 p1 => r H1 _ (st.keep _ _ s e1) fun xs H2 e2 p2 => q _ H2 (e1.trans e2) ?_
  obtain ⟨d, hd, hb⟩ := p1.same e2
  obtain ⟨ds, h1, h2, h3⟩ := p2
  exact ⟨d :: ds, .cons hd h1, fun y hy => by
    rcases List.mem_cons.mp hy with z | z
    · rw [z]; exact hb
    · exact h2 y z, by rw [List.length_cons]; omega⟩
theorem Ev.lst (st : Stb l S) {ta : TA} (h : Eva S (AD l P n) ta σ) (hn : n ≤ 100000 := by decide) : Ev S (LD l P n) (tLst ta) σ := fun H Q s q => by
  refine h H _ s fun xs H1 e1 p1 => ?_
  obtain ⟨ds, h1, h2, h3⟩ := p1
  refine ⟨by rw [h1.len, sizeLine_eq]; omega, fun p hp => ?_⟩
  have np := st.new H1 p (st.keep _ _ s e1) hp
  have e2 := same_new' (o := .lst xs) hp
  exact q _ _ (e1.trans e2) ⟨p, xs, ds, rfl, offs_of np upd_same, h1.to (offs_mono e2), h2, h3⟩
theorem Ev.tup (st : Stb l S) {ta : TA} (h : Eva S (AD l P n) ta σ) (hn : n ≤ 100000 := by decide) : Ev S (TD l P n) (tTup ta) σ := fun H Q s q => by
  refine h H _ s fun xs H1 e1 p1 => ?_
  obtain ⟨ds, h1, h2, h3⟩ := p1
  refine ⟨by rw [h1.len, sizeLine_eq]; omega, fun p hp => ?_⟩
  have np := st.new H1 p (st.keep _ _ s e1) hp
  have e2 := same_new' (o := .tup xs) hp
  exact q _ _ (e1.trans e2) ⟨p, xs, ds, rfl, offs_of np upd_same, h1.to (offs_mono e2), h2, h3⟩
theorem Ev.cat (st : Stb l S) {ta tb : TE} (h : Ev S (LD l P n) ta σ) (h' : Ev S (LD l P n') tb σ) (hn : n + n' ≤ 100000 := by decide) : Ev S (LD l P (n + n')) (tOp rCat ta tb) σ := fun H Q s q => by
  refine h H _ s fun x H1 e1 p1 => h' H1 _ (st.keep _ _ s e1) fun y H2 e2 p2 => ?_
  obtain ⟨p, vs, ds, rfl, a1, a2, a3, a4⟩ := p1.same e2
  obtain ⟨p', vs', ds', rfl, b1, b2, b3, b4⟩ := p2
  have h1 := a2.len
  have h2 := b2.len
  refine ⟨p, p', vs, vs', rfl, rfl, (offs_at a1).2, (offs_at b1).2, by rw [sizeLine_eq]; omega, fun r hr => ?_⟩
  have s2 := st.keep _ _ s (e1.trans e2)
  have nr := st.new H2 r s2 hr
  have e3 := same_new' (o := .lst (vs ++ vs')) hr
  exact q _ _ ((e1.trans e2).trans e3) ⟨r, _, ds ++ ds', rfl, offs_of nr upd_same, (a2.app b2).to (offs_mono e3), fun d hd => (List.mem_append.mp hd).elim (a3 d) (b3 d), by rw [List.length_append]; omega⟩
theorem Ev.catT (st : Stb l S) {ta tb : TE} (h : Ev S (TD l P n) ta σ) (h' : Ev S (TD l P n') tb σ) (hn : n + n' ≤ 100000 := by decide) : Ev S (TD l P (n + n')) (tOp (rCatA K) ta tb) σ := fun H Q s q => by
  refine h H _ s fun x H1 e1 p1 => h' H1 _ (st.keep _ _ s e1) fun y H2 e2 p2 => ?_
  obtain ⟨p, vs, ds, rfl, a1, a2, a3, a4⟩ := p1
  have a1 := offs_mono (l := l) e2 _ _ a1
  have a2 := a2.to (offs_mono e2)
  obtain ⟨p', vs', ds', rfl, b1, b2, b3, b4⟩ := p2
  have h1 := a2.len
  have h2 := b2.len
  refine ⟨p, p', vs, vs', rfl, rfl, .inl (.inl (offs_at a1).2), .inl (.inl (offs_at b1).2), by rw [sizeLine_eq]; omega, fun _ => ?_, fun _ _ => ?_, fun _ _ r hr => ?_⟩
  · exact q _ _ (e1.trans e2) ⟨p', vs', ds', rfl, b1, b2, b3, by omega⟩
  · exact q _ _ (e1.trans e2) ⟨p, vs, ds, rfl, a1, a2, a3, by omega⟩
  · have s2 := st.keep _ _ s (e1.trans e2)
    have nr := st.new H2 r s2 hr
    have e3 := same_new' (o := .tup (vs ++ vs')) hr
    exact q _ _ ((e1.trans e2).trans e3) ⟨r, _, ds ++ ds', rfl, offs_of nr upd_same, (a2.app b2).to (offs_mono e3), fun d hd => (List.mem_append.mp hd).elim (a3 d) (b3 d), by rw [List.length_append]; omega⟩
theorem DtAll.drop {H : Hp} : ∀ (i : Nat) {vs : List V} {ds : List PyData}, DtAll H vs ds → DtAll H (vs.drop i) (ds.drop i)
  | 0, _, _, h => h
  | _ + 1, _, _, .nil => .nil
  | i + 1, _, _, .cons _ r => DtAll.drop i r
theorem DtAll.take {H : Hp} : ∀ (i : Nat) {vs : List V} {ds : List PyData}, DtAll H vs ds → DtAll H (vs.take i) (ds.take i)
  | 0, _, _, _ => .nil
  | _ + 1, _, _, .nil => .nil
  | i + 1, _, _, .cons h r => .cons h (DtAll.take i r)
theorem cut_data {H : Hp} {vs : List V} {ds : List PyData} (h : DtAll H vs ds) (lo hi : Option Int) : ∃ es : List PyData, DtAll H (cutV vs lo hi) es ∧ (∀ d ∈ es, d ∈ ds) ∧ es.length ≤ ds.length := by
  unfold cutV
  refine ⟨_, DtAll.take _ (DtAll.drop _ h), fun d hd => List.mem_of_mem_drop (List.mem_of_mem_take hd), ?_⟩
  rw [List.length_take, List.length_drop]
  omega
theorem Ev.cut (st : Stb l S) {te : TE} {lo hi : TO} (h : Ev S (LD l P n) te σ) (h1 : Evo S lo σ) (h2 : Evo S hi σ) : Ev S (LD l P n) (L2.tSl (rSlL K) te lo hi) σ := fun H Q s q => by
  refine h H _ s fun x H1 e1 p1 => h1 H1 _ (st.keep _ _ s e1) fun i H2 e2 => h2 H2 _ (st.keep _ _ s (e1.trans e2)) fun j H3 e3 => ?_
  obtain ⟨p, vs, ds, rfl, a1, a2, a3, a4⟩ := p1.same (e2.trans e3)
  refine ⟨p, vs, rfl, .inl (.inl (offs_at a1).2), fun r hr => ?_⟩
  have e4 := e1.trans (e2.trans e3)
  have nr := st.new H3 r (st.keep _ _ s e4) hr
  have e5 := same_new' (o := .lst (cutV vs i j)) hr
  obtain ⟨es, c1, c2, c3⟩ := cut_data a2 i j
  exact q _ _ (e4.trans e5) ⟨r, _, es, rfl, offs_of nr upd_same, c1.to (offs_mono e5), fun d hd => a3 d (c2 d hd), by omega⟩
theorem Ev.cutT (st : Stb l S) {te : TE} {lo hi : TO} (h : Ev S (TD l P n) te σ) (h1 : Evo S lo σ) (h2 : Evo S hi σ) : Ev S (TD l P n) (L2.tSl (rSlA K) te lo hi) σ := fun H Q s q => by
  refine h H _ s fun x H1 e1 p1 => h1 H1 _ (st.keep _ _ s e1) fun i H2 e2 => h2 H2 _ (st.keep _ _ s (e1.trans e2)) fun j H3 e3 => ?_
  obtain ⟨p, vs, ds, rfl, a1, a2, a3, a4⟩ := p1
  have e23 := e2.trans e3
  have a1 := offs_mono (l := l) e23 _ _ a1
  have a2 := a2.to (offs_mono e23)
  have e4 := e1.trans (e2.trans e3)
  refine ⟨p, vs, rfl, .inl (.inl (offs_at a1).2), fun _ => q _ _ e4 ⟨p, vs, ds, rfl, a1, a2, a3, a4⟩, fun _ r hr => ?_⟩
  have nr := st.new H3 r (st.keep _ _ s e4) hr
  have e5 := same_new' (o := .tup (cutV vs i j)) hr
  obtain ⟨es, c1, c2, c3⟩ := cut_data a2 i j
  exact q _ _ (e4.trans e5) ⟨r, _, es, rfl, offs_of nr upd_same, c1.to (offs_mono e5), fun d hd => a3 d (c2 d hd), by omega⟩
theorem Evo.no : Evo S tNoPart σ := fun H Q _ q => q _ H (Same.refl H)
/-- an int -/
def I : Fi := fun x _ => ∃ i : Int, x = .int i
theorem Ev.intI (i : Int) : Ev S I (tC (.int i)) σ := fun H Q _ q => q _ H (Same.refl H) ⟨i, rfl⟩
theorem Ev.varI {i : Nat} {j : Int} (h : σ[i]? = some (some (.int j))) : Ev S I (tVar i) σ := fun H Q s q => ⟨_, h, q _ H (Same.refl H) ⟨j, rfl⟩⟩
theorem Evo.some {te : TE} (h : Ev S I te σ) : Evo S (tPart te) σ := fun H Q s q => h H _ s fun x H1 e1 p => by
  obtain ⟨i, rfl⟩ := p
  exact ⟨i, rfl, q _ H1 e1⟩
theorem Ev.listL (st : Stb l S) {te : TE} (h : Ev S (LD l P n) te σ) : Ev S (LD l P n) (tCB (rListK K) (tCons te tNil)) σ := fun H Q s q => by
  refine h H _ s fun x H1 e1 p1 => ?_
  obtain ⟨p, vs, ds, rfl, a1, a2, a3, a4⟩ := p1
  refine ⟨p, vs, rfl, .inl (.inl (.inl (offs_at a1).2)), fun r hr => ?_⟩
  have nr := st.new H1 r (st.keep _ _ s e1) hr
  have e5 := same_new' (o := .lst vs) hr
  exact q _ _ (e1.trans e5) ⟨r, _, ds, rfl, offs_of nr upd_same, a2.to (offs_mono e5), a3, a4⟩
theorem Ev.listT (st : Stb l S) {te : TE} (h : Ev S (TD l P n) te σ) : Ev S (LD l P n) (tCB (rListK K) (tCons te tNil)) σ := fun H Q s q => by
  refine h H _ s fun x H1 e1 p1 => ?_
  obtain ⟨p, vs, ds, rfl, a1, a2, a3, a4⟩ := p1
  refine ⟨p, vs, rfl, .inr (.inl (.inl (offs_at a1).2)), fun r hr => ?_⟩
  have nr := st.new H1 r (st.keep _ _ s e1) hr
  have e5 := same_new' (o := .lst vs) hr
  exact q _ _ (e1.trans e5) ⟨r, _, ds, rfl, offs_of nr upd_same, a2.to (offs_mono e5), a3, a4⟩
theorem Ev.tupL (st : Stb l S) {te : TE} (h : Ev S (LD l P n) te σ) : Ev S (TD l P n) (tCB (rTupK K) (tCons te tNil)) σ := fun H Q s q => by
  refine h H _ s fun x H1 e1 p1 => ?_
  obtain ⟨p, vs, ds, rfl, a1, a2, a3, a4⟩ := p1
  refine ⟨p, vs, rfl, .inl ⟨.inl (.inl (offs_at a1).2), fun r hr => ?_⟩⟩
  have nr := st.new H1 r (st.keep _ _ s e1) hr
  have e5 := same_new' (o := .tup vs) hr
  exact q _ _ (e1.trans e5) ⟨r, _, ds, rfl, offs_of nr upd_same, a2.to (offs_mono e5), a3, a4⟩
theorem Ev.len {te : TE} (h : Ev S (LD l (Bnd k b) n) te σ) (hn : n ≤ 100000 := by decide) : Ev S (D l (Bnd k' b')) (tCB (rLenK K) (tCons te tNil)) σ := fun H Q s q => by
  refine h H _ s fun x H1 e1 p1 => ?_
  obtain ⟨p, vs, ds, rfl, a1, a2, a3, a4⟩ := p1
  have := a2.len
  exact ⟨p, vs, rfl, .inl (.inl (.inl (offs_at a1).2)), q _ _ e1 ⟨_, .int _, .int (by omega)⟩⟩
theorem Ev.rep (st : Stb l S) {ta : TE} {j : Nat} (h : Ev S (LD l P n) ta σ) (hj : n * j ≤ 100000 := by decide) (hj2 : j ≤ 1000 := by decide) : Ev S (LD l P (n * j)) (tOp rRep ta (tC (.int (j : Int)))) σ := fun H Q s q => by
  refine h H _ s fun x H1 e1 p1 => ?_
  obtain ⟨p, vs, ds, rfl, a1, a2, a3, a4⟩ := p1
  have hl := a2.len
  have hm : ds.length * j ≤ n * j := Nat.mul_le_mul_right j a4
  refine ⟨p, j, vs, rfl, rfl, (offs_at a1).2, by omega, by omega, by rw [hl, Int.toNat_natCast, sizeLine_eq]; omega, fun r hr => ?_⟩
  have nr := st.new H1 r (st.keep _ _ s e1) hr
  have e5 := same_new' (o := .lst (List.replicate (j : Int).toNat vs).flatten) hr
  have key : ∀ m : Nat, DtAll (offs l H1) (List.replicate m vs).flatten (List.replicate m ds).flatten := by
    intro m
    induction m with
    | zero => exact .nil
    | succ m ih =>
      rw [List.replicate_succ, List.replicate_succ, List.flatten_cons, List.flatten_cons]
      exact a2.app ih
  refine q _ _ (e1.trans e5) ⟨r, _, (List.replicate j ds).flatten, rfl, offs_of nr upd_same, ?_, fun d hd => ?_, ?_⟩
  · rw [Int.toNat_natCast]
    exact (key j).to (offs_mono (by rw [Int.toNat_natCast] at e5; exact e5))
  · obtain ⟨m, hm1, hm2⟩ := List.mem_flatten.mp hd
    rw [List.eq_of_mem_replicate hm1] at hm2
    exact a3 d hm2
  · rw [List.length_flatten, List.map_replicate, List.sum_replicate_nat, Nat.mul_comm]
    exact hm
end
end Hw
namespace Hw
open PySem PySem.Spec PyProof.Rows L2
/-! ### statements, read one by one -/
def iAt (J : It) : TI := fun _ H R => R J H
section
variable {K : PySem.W.Frag} {te : TE} {g : TG} {tb t u : TS} {d : Ends} {σ : L2.St} {H : Hp} {i : Nat}
theorem forL (h : te σ H fun x H1 => ∃ a, x = .ref a ∧ (∃ xs, SqL K H1 a xs) ∧ tFor (iAt (Itl K a)) g tb d σ H1) : tFor (iList K te) g tb d σ H := h
theorem seqL (h : t { d with nx := u d } σ H) : tSeq t u d σ H := h
theorem setL (h : te σ H fun x H1 => d.nx (σ.set i (some x)) H1) : tAsg te (gName i) d σ H := h
theorem setNil (h : ∀ p, H p = none → d.nx (σ.set i (some (.ref p))) (upd H p (.lst []))) : tAsg (tLst tNil) (gName i) d σ H := ⟨Nat.zero_le _, h⟩
theorem retL (h : te σ H d.rt) : tRet te d σ H := h
end
end Hw
namespace Hw
open PySem PySem.Spec PyProof.Rows L2
section
variable {X : Cx} {K : PySem.W.Frag}
theorem pi_enumK {e : Expr} {ta : TA} {p pos tpos : Pos} {elts : List Expr} {kk : Nat} (h : X.K = K) (hg : Gl X "enumerate") (hm : X.mg "enumerate" = none) (ha : PA X [e] ta) (hs : starEach [e] X.env = [(false, eval e X.env)] := by rfl) :
    PI X (.Tuple elts kk tpos) (.Call (.Name "enumerate" p) [e] [] pos) (iEnum K ta) := by
  subst h
  exact pi_enum hg hm ha hs
theorem pi_listK {tg : Expr} {l : Expr} {tl : TE} (h : X.K = K) (hl : PE X l tl) : PI X tg l (iList K tl) := by
  subst h
  exact pi_list hl
end
end Hw
namespace Hw
open PySem PySem.Spec PyProof.Rows L2
/-! ### literals, told exactly -/
def Ed (d : PyData) : Fi := fun x H => Dt H x d
def Eda (ds : List PyData) : List V → Hp → Prop := fun xs H => DtAll H xs ds
abbrev Tr : Hp → Prop := fun _ => True
section
variable {σ : L2.St} {ds : List PyData} {d : PyData} {te : TE} {ta : TA} {i j : Nat} {e : Ends} {H : Hp}
theorem Ev.eint (i : Int) : Ev Tr (Ed (.int i)) (tC (.int i)) σ := fun H Q _ q => q _ H (Same.refl H) (.int i)
theorem Ev.ebl (b : Bool) : Ev Tr (Ed (.bool b)) (tC (.bl b)) σ := fun H Q _ q => q _ H (Same.refl H) (.bl b)
theorem Ev.estr (x : Str) : Ev Tr (Ed (.str x)) (tC (.str x)) σ := fun H Q _ q => q _ H (Same.refl H) (.str x)
theorem Ev.enon : Ev Tr (Ed .none) (tC .non) σ := fun H Q _ q => q _ H (Same.refl H) .non
theorem Eva.enil : Eva Tr (Eda []) tNil σ := fun H Q _ q => q _ H (Same.refl H) .nil
theorem Eva.econs (h : Ev Tr (Ed d) te σ) (r : Eva Tr (Eda ds) ta σ) : Eva Tr (Eda (d :: ds)) (tCons te ta) σ := fun H Q s q => h H _ s fun x H1 e1 p1 => r H1 _ s fun xs H2 e2 p2 => q _ H2 (e1.trans e2) (.cons (Dt.to p1 e2) p2)
theorem Ev.elst (h : Eva Tr (Eda ds) ta σ) (hn : ds.length ≤ 100000 := by decide) : Ev Tr (Ed (.list ds)) (tLst ta) σ := fun H Q s q => h H _ s fun xs H1 e1 p1 => by
  have p1 : DtAll H1 xs ds := p1
  refine ⟨by rw [p1.len, sizeLine_eq]; omega, fun p hp => ?_⟩
  have e2 := same_new' (o := .lst xs) hp
  exact q _ _ (e1.trans e2) (Dt.lst upd_same (p1.to e2))
theorem Ev.etup (h : Eva Tr (Eda ds) ta σ) (hn : ds.length ≤ 100000 := by decide) : Ev Tr (Ed (.tuple ds)) (tTup ta) σ := fun H Q s q => h H _ s fun xs H1 e1 p1 => by
  have p1 : DtAll H1 xs ds := p1
  refine ⟨by rw [p1.len, sizeLine_eq]; omega, fun p hp => ?_⟩
  have e2 := same_new' (o := .tup xs) hp
  exact q _ _ (e1.trans e2) (Dt.tup upd_same (p1.to e2))
theorem parL (h : ta σ H fun vs H1 => ∃ v w, vs = [v, w] ∧ e.nx ((σ.set i (some v)).set j (some w)) H1) : tPar i j ta e σ H := h
theorem Dt.nats_at {x : V} {l : List Nat} (h : Dt H x (.list (natD l))) : ∃ a, x = .ref a ∧ H a = some (.lst (natV l)) := by
  cases h with
  | @lst a xs _ ha hs =>
    have e := DtAll.nats_inv _ _ hs
    subst e
    exact ⟨a, rfl, ha⟩
theorem natV_rep (n x : Nat) : (List.replicate n [V.int (x : Int)]).flatten = natV (List.replicate n x) := by
  unfold natV
  rw [List.map_replicate]
  induction n with
  | zero => rfl
  | succ n ih => rw [List.replicate_succ, List.flatten_cons, ih, List.replicate_succ]; rfl
theorem natV_rep2 (n x y : Nat) : (List.replicate n [V.int (x : Int), .int (y : Int)]).flatten = natV (List.replicate n [x, y]).flatten := by
  unfold natV
  rw [List.map_flatten, List.map_replicate]
  rfl
end
end Hw

set_option Elab.async false
set_option linter.all false
set_option maxRecDepth 100000
set_option maxHeartbeats 4000000
/-! pure states: what the names hold as data, which objects the def may change; readings over them -/
namespace Hw
open PySem PySem.Spec PyProof.Rows L2
/-- what a name holds: nothing that is known, data that stays, this very value -/
inductive Sl where
  | no
  | dat (d : PyData)
  | con (v : V)
  /-- a list of numbers that is read only -/
  | scr (K : PySem.W.Frag) (ns : List Int)
/-- an object of one's own -/
inductive OD where
  | lst (ss : List Sl)
  | dk (kvs : List (Key × Sl))
  | tup (ss : List Sl)
structure GS where
  sl : List Sl
  ow : List (Addr × OD) := []
  gn : List (Addr × Nat) := []
  hd : List Addr := []
  /-- what the caller has handed over to be changed -/
  pw : List Addr := []
def GS.l (g : GS) : List Addr := g.ow.map (·.1) ++ (g.gn.map (·.1) ++ g.hd)
def GS.put (g : GS) (i : Nat) (s : Sl) : GS := { g with sl := g.sl.set i s }
def GS.addO (g : GS) (a : Addr) (o : OD) : GS := { g with ow := (a, o) :: g.ow }
def GS.setO (g : GS) (a : Addr) (o : OD) : GS := { g with ow := g.ow.map fun p => if p.1 = a then (a, o) else p }
def GS.setG (g : GS) (a : Addr) (n : Nat) : GS := { g with gn := g.gn.map fun p => if p.1 = a then (a, n) else p }
/-- a value as it is held -/
def Hold (l : List Addr) (H : Hp) (x : V) : Sl → Prop
  | .no => True
  | .dat d => Dt (offs l H) x d
  | .con v => x = v
  | .scr K ns => ∃ a, x = .ref a ∧ SqL K (offs l H) a (ns.map V.int)
inductive HoldA (l : List Addr) (H : Hp) : List V → List Sl → Prop
  | nil : HoldA l H [] []
  | cons {x : V} {xs : List V} {s : Sl} {ss : List Sl} : Hold l H x s → HoldA l H xs ss → HoldA l H (x :: xs) (s :: ss)
inductive HoldK (l : List Addr) (H : Hp) : List (Key × V) → List (Key × Sl) → Prop
  | nil : HoldK l H [] []
  | cons {k : Key} {x : V} {xs : List (Key × V)} {s : Sl} {ss : List (Key × Sl)} : Hold l H x s → HoldK l H xs ss → HoldK l H ((k, x) :: xs) ((k, s) :: ss)
/-- the law's generator: draws are left -/
def Gb (a : Addr) (n : Nat) (H : Hp) : Prop := ∃ s t c : Int, H a = some (.lst [.int s, .int t, .int c]) ∧ 0 ≤ s ∧ s < 2 ^ 2000 ∧ 0 ≤ t ∧ t < 2147483648 ∧ 0 ≤ c ∧ c + 100 * n + 100 < 4294967296
def HoldO (l : List Addr) (H : Hp) (a : Addr) : OD → Prop
  | .lst ss => ∃ vs, H a = some (.lst vs) ∧ HoldA l H vs ss
  | .dk kvs => ∃ ws, H a = some (.dK ws) ∧ HoldK l H ws kvs
  | .tup ss => ∃ vs, H a = some (.tup vs) ∧ HoldA l H vs ss
structure Sat (H0 : Hp) (g : GS) (σ : L2.St) (H : Hp) : Prop where
  len : σ.length = g.sl.length
  sl : ∀ (i : Nat) (s : Sl), g.sl[i]? = some s → s ≠ .no → ∃ v : V, σ[i]? = some (some v) ∧ Hold g.l H v s
  ow : ∀ p ∈ g.ow, HoldO g.l H p.1 p.2
  gn : ∀ p ∈ g.gn, Gb p.1 p.2 H
  nd : g.l.Nodup
  dom : ∀ a ∈ g.l, ∃ o, H a = some o
  same : ∀ b o, b ∉ g.pw → H0 b = some o → H b = some o
  fresh : ∀ a ∈ g.ow.map (·.1) ++ g.gn.map (·.1), a ∈ g.pw ∨ H0 a = none
section
variable {l l' : List Addr} {H H' H0 : Hp} {x : V} {s : Sl} {g g' : GS} {σ : L2.St}
theorem Hold.to (h : Hold l H x s) (e : Same (offs l H) (offs l' H')) : Hold l' H' x s := by
  cases s with
  | no => trivial
  | dat d => exact Dt.to h e
  | con v => exact h
  | scr K ns =>
    obtain ⟨a, h1, h2⟩ := h
    exact ⟨a, h1, e.seq h2⟩
theorem HoldA.to {xs : List V} {ss : List Sl} (h : HoldA l H xs ss) (e : Same (offs l H) (offs l' H')) : HoldA l' H' xs ss := by
  induction h with
  | nil => exact .nil
  | cons h _ ih => exact .cons (h.to e) ih
theorem HoldK.to {xs : List (Key × V)} {ss : List (Key × Sl)} (h : HoldK l H xs ss) (e : Same (offs l H) (offs l' H')) : HoldK l' H' xs ss := by
  induction h with
  | nil => exact .nil
  | cons h _ ih => exact .cons (h.to e) ih
theorem HoldA.len {xs : List V} {ss : List Sl} (h : HoldA l H xs ss) : xs.length = ss.length := by
  induction h with
  | nil => rfl
  | cons _ _ ih => simp [ih]
theorem HoldA.get {xs : List V} {ss : List Sl} (h : HoldA l H xs ss) : ∀ {i : Nat} {s : Sl}, ss[i]? = some s → ∃ x, xs[i]? = some x ∧ Hold l H x s := by
  induction h with
  | nil => intro i s e; simp at e
  | cons h _ ih =>
    intro i s e
    cases i with
    | zero => exact ⟨_, rfl, by cases e; exact h⟩
    | succ i => exact ih e
theorem HoldA.app {xs ys : List V} {ss ts : List Sl} (h : HoldA l H xs ss) (k : HoldA l H ys ts) : HoldA l H (xs ++ ys) (ss ++ ts) := by
  induction h with
  | nil => exact k
  | cons h _ ih => exact .cons h ih
theorem HoldA.set {xs : List V} {ss : List Sl} (h : HoldA l H xs ss) : ∀ (i : Nat) {x : V} {s : Sl}, Hold l H x s → HoldA l H (xs.set i x) (ss.set i s) := by
  induction h with
  | nil => intro i x s _; exact .nil
  | cons h t ih =>
    intro i x s k
    cases i with
    | zero => exact .cons k t
    | succ i => exact .cons h (ih i k)
theorem HoldA.dats {xs : List V} {ds : List PyData} (h : HoldA l H xs (ds.map Sl.dat)) : DtAll (offs l H) xs ds := by
  induction ds generalizing xs with
  | nil => cases h; exact .nil
  | cons d r ih =>
    cases h with
    | cons h t => exact .cons h (ih t)
theorem HoldA.of {xs : List V} : ∀ {ds : List PyData}, DtAll (offs l H) xs ds → HoldA l H xs (ds.map Sl.dat) := by
  induction xs with
  | nil => intro ds h; cases h; exact .nil
  | cons x r ih =>
    intro ds h
    cases h with
    | cons h t => exact .cons h (ih t)
theorem Gb.same {a : Addr} {n : Nat} (h : Gb a n H) (e : Same H H') : Gb a n H' := by
  obtain ⟨s, t, c, h, r⟩ := h
  exact ⟨s, t, c, e _ _ h, r⟩
theorem Gb.less {a : Addr} {n m : Nat} (h : Gb a n H) (e : m ≤ n) : Gb a m H := by
  obtain ⟨s, t, c, h, a1, a2, a3, a4, a5, a6⟩ := h
  exact ⟨s, t, c, h, a1, a2, a3, a4, a5, by omega⟩
theorem HoldO.to {a : Addr} {o : OD} (h : HoldO l H a o) (e : Same (offs l H) (offs l' H')) (at_ : ∀ u, H a = some u → H' a = some u) : HoldO l' H' a o := by
  cases o with
  | lst ss =>
    obtain ⟨vs, h1, h2⟩ := h
    exact ⟨vs, at_ _ h1, h2.to e⟩
  | dk kvs =>
    obtain ⟨vs, h1, h2⟩ := h
    exact ⟨vs, at_ _ h1, h2.to e⟩
  | tup ss =>
    obtain ⟨vs, h1, h2⟩ := h
    exact ⟨vs, at_ _ h1, h2.to e⟩
/-- the heap has grown -/
theorem Sat.mono (h : Sat H0 g σ H) (e : Same H H') : Sat H0 g σ H' where
  len := h.len
  sl := fun i s hs n => by
    obtain ⟨v, h1, h2⟩ := h.sl i s hs n
    exact ⟨v, h1, h2.to (offs_mono e)⟩
  ow := fun p hp => (h.ow p hp).to (offs_mono e) (e _)
  gn := fun p hp => (h.gn p hp).same e
  nd := h.nd
  dom := fun a ha => by
    obtain ⟨o, h⟩ := h.dom a ha
    exact ⟨o, e _ _ h⟩
  same := fun b o n hb => e _ _ (h.same b o n hb)
  fresh := h.fresh
/-- a name is set -/
theorem Sat.put (h : Sat H0 g σ H) {i : Nat} (hx : Hold g.l H x s) : Sat H0 (g.put i s) (σ.set i (some x)) H where
  len := by show (σ.set i (some x)).length = (g.sl.set i s).length; rw [List.length_set, List.length_set]; exact h.len
  sl := fun j t ht n => by
    have ht : (g.sl.set i s)[j]? = some t := ht
    rw [List.getElem?_set] at ht
    rw [List.getElem?_set]
    by_cases e : i = j
    · subst e
      rw [if_pos rfl] at ht ⊢
      by_cases hl : i < g.sl.length
      · rw [if_pos hl] at ht
        rw [if_pos (by rw [h.len]; exact hl)]
        cases ht
        exact ⟨x, rfl, hx⟩
      · rw [if_neg hl] at ht; cases ht
    · rw [if_neg e] at ht ⊢
      exact h.sl j t ht n
  ow := h.ow
  gn := h.gn
  nd := h.nd
  dom := h.dom
  same := h.same
  fresh := h.fresh
/-- names are forgotten -/
def wipeS (ss : List Sl) : List Nat → List Sl
  | [] => ss
  | v :: vs => (wipeS ss vs).set v .no
theorem wipeS_length (ss : List Sl) : ∀ vs : List Nat, (wipeS ss vs).length = ss.length
  | [] => rfl
  | v :: vs => by unfold wipeS; rw [List.length_set, wipeS_length ss vs]
theorem Sat.forget (h : Sat H0 g σ H) (i : Nat) : Sat H0 (g.put i .no) (σ.set i none) H where
  len := by show (σ.set i none).length = (g.sl.set i .no).length; rw [List.length_set, List.length_set]; exact h.len
  sl := fun j t ht n => by
    have ht : (g.sl.set i .no)[j]? = some t := ht
    rw [List.getElem?_set] at ht
    rw [List.getElem?_set]
    by_cases e : i = j
    · subst e
      rw [if_pos rfl] at ht
      by_cases hl : i < g.sl.length
      · rw [if_pos hl] at ht
        cases ht
        exact absurd rfl n
      · rw [if_neg hl] at ht; cases ht
    · rw [if_neg e] at ht ⊢
      exact h.sl j t ht n
  ow := h.ow
  gn := h.gn
  nd := h.nd
  dom := h.dom
  same := h.same
  fresh := h.fresh
theorem Sat.wipe (h : Sat H0 g σ H) : ∀ vs : List Nat, Sat H0 { g with sl := wipeS g.sl vs } (L2.wipe σ vs) H
  | [] => h
  | v :: vs => (Sat.wipe h vs).forget v
end
/-! ### expressions -/
def EM (te : TE) (g : GS) (K : Sl → GS → Prop) : Prop := ∀ H0 σ H Q, Sat H0 g σ H → (∀ x H' s g', K s g' → g'.sl = g.sl → Sat H0 g' σ H' → Same (offs g.l H) (offs g'.l H') → Hold g'.l H' x s → Q x H') → te σ H Q
def EX (te : TE) (g : GS) (s : Sl) : Prop := EM te g fun s' g' => s' = s ∧ g' = g
def EA (t : TA) (g : GS) (K : List Sl → GS → Prop) : Prop := ∀ H0 σ H Q, Sat H0 g σ H → (∀ xs H' ss g', K ss g' → g'.sl = g.sl → Sat H0 g' σ H' → Same (offs g.l H) (offs g'.l H') → HoldA g'.l H' xs ss → Q xs H') → t σ H Q
def EAX (t : TA) (g : GS) (ss : List Sl) : Prop := EA t g fun s' g' => s' = ss ∧ g' = g
def TM (t : TT) (g : GS) (K : Bool → GS → Prop) : Prop := ∀ H0 σ H Q, Sat H0 g σ H → (∀ b H' g', K b g' → g'.sl = g.sl → Sat H0 g' σ H' → Same (offs g.l H) (offs g'.l H') → Q b H') → t σ H Q
def TX (t : TT) (g : GS) (b : Bool) : Prop := TM t g fun b' g' => b' = b ∧ g' = g
def EO (t : TO) (g : GS) (o : Option Int) : Prop := ∀ H0 σ H Q, Sat H0 g σ H → (∀ H', Sat H0 g σ H' → Same (offs g.l H) (offs g.l H') → Q o H') → t σ H Q
/-- rules by values: from what is held comes what is held -/
def RC1 (r : V → Hp → VK → Prop) (g : GS) (s1 s : Sl) : Prop := ∀ H0 σ H x Q, Sat H0 g σ H → Hold g.l H x s1 → (∀ z H', Same H H' → Hold g.l H' z s → Q z H') → r x H Q
def RC2 (r : R2) (g : GS) (s1 s2 s : Sl) : Prop := ∀ H0 σ H x y Q, Sat H0 g σ H → Hold g.l H x s1 → Hold g.l H y s2 → (∀ z H', Same H H' → Hold g.l H' z s → Q z H') → r x y H Q
def RCn (r : List V → Hp → VK → Prop) (g : GS) (ss : List Sl) (s : Sl) : Prop := ∀ H0 σ H xs Q, Sat H0 g σ H → HoldA g.l H xs ss → (∀ z H', Same H H' → Hold g.l H' z s → Q z H') → r xs H Q
def RCm (r : V → List V → Hp → VK → Prop) (g : GS) (s1 : Sl) (ss : List Sl) (s : Sl) : Prop := ∀ H0 σ H x xs Q, Sat H0 g σ H → Hold g.l H x s1 → HoldA g.l H xs ss → (∀ z H', Same H H' → Hold g.l H' z s → Q z H') → r x xs H Q
def RCs (r : V → Option Int → Option Int → Hp → VK → Prop) (g : GS) (s1 : Sl) (lo hi : Option Int) (s : Sl) : Prop := ∀ H0 σ H x Q, Sat H0 g σ H → Hold g.l H x s1 → (∀ z H', Same H H' → Hold g.l H' z s → Q z H') → r x lo hi H Q
section
variable {g : GS} {K K' : Sl → GS → Prop} {te ta tb tc : TE} {s s1 s2 s3 : Sl} {ss : List Sl}
theorem EM.mono (h : EM te g K) (m : ∀ s g', K s g' → K' s g') : EM te g K' := fun H0 σ H Q sat q => h H0 σ H Q sat fun x H' s g' k => q x H' s g' (m s g' k)
theorem EX.em (h : EX te g s) (k : K s g) : EM te g K := EM.mono h fun s' g' e => by obtain ⟨rfl, rfl⟩ := e; exact k
theorem EX.cast (h : EX te g s) (e : s = s1) : EX te g s1 := e ▸ h
theorem EX.dat {d e : PyData} (h : EX te g (.dat d)) (k : d = e) : EX te g (.dat e) := k ▸ h
theorem EX.go (h : EX te g s) {H0 : Hp} {σ : L2.St} {H : Hp} {Q : VK} (sat : Sat H0 g σ H) (q : ∀ x H', Sat H0 g σ H' → Same (offs g.l H) (offs g.l H') → Hold g.l H' x s → Q x H') : te σ H Q :=
  h H0 σ H Q sat fun x H' s' g' e _ sat' sm hx => by obtain ⟨rfl, rfl⟩ := e; exact q x H' sat' sm hx
theorem EX.of (h : ∀ H0 σ H Q, Sat H0 g σ H → (∀ x H', Sat H0 g σ H' → Same (offs g.l H) (offs g.l H') → Hold g.l H' x s → Q x H') → te σ H Q) : EX te g s :=
  fun H0 σ H Q sat q => h H0 σ H Q sat fun x H' sat' sm hx => q x H' s g ⟨rfl, rfl⟩ rfl sat' sm hx
theorem EX.var {i : Nat} (h : g.sl[i]? = some s) (n : s ≠ .no := by intro z; cases z) : EX (tVar i) g s := EX.of fun H0 σ H Q sat q => by
  obtain ⟨v, h1, h2⟩ := sat.sl i s h n
  exact ⟨v, h1, q v H sat (Same.refl _) h2⟩
theorem EX.int (i : Int) : EX (tC (.int i)) g (.dat (.int i)) := EX.of fun H0 σ H Q sat q => q _ H sat (Same.refl _) (.int i)
theorem EX.str (x : Str) : EX (tC (.str x)) g (.dat (.str x)) := EX.of fun H0 σ H Q sat q => q _ H sat (Same.refl _) (.str x)
theorem EX.bl (b : Bool) : EX (tC (.bl b)) g (.dat (.bool b)) := EX.of fun H0 σ H Q sat q => q _ H sat (Same.refl _) (.bl b)
theorem EX.non : EX (tC .non) g (.dat .none) := EX.of fun H0 σ H Q sat q => q _ H sat (Same.refl _) .non
theorem EX.con (v : V) : EX (tC v) g (.con v) := EX.of fun H0 σ H Q sat q => q _ H sat (Same.refl _) rfl
theorem EM.op {r : R2} (h : EM ta g fun s1 g1 => EM tb g1 fun s2 g2 => ∃ s, RC2 r g2 s1 s2 s ∧ K s g2) : EM (tOp r ta tb) g K := fun H0 σ H Q sat q => by
  refine h H0 σ H _ sat fun x H1 s1 g1 k1 e1 sat1 sm1 h1 => k1 H0 σ H1 _ sat1 fun y H2 s2 g2 k2 e2 sat2 sm2 h2 => ?_
  obtain ⟨s, rc, k⟩ := k2
  exact rc H0 σ H2 x y Q sat2 (h1.to sm2) h2 fun z H3 sm3 hz => q z H3 s g2 k (e2.trans e1) (sat2.mono sm3) (sm1.trans (sm2.trans (offs_mono sm3))) hz
theorem EX.op {r : R2} (ha : EX ta g s1) (hb : EX tb g s2) (rc : RC2 r g s1 s2 s) : EX (tOp r ta tb) g s := EM.op (ha.em (hb.em ⟨s, rc, rfl, rfl⟩))
theorem EM.un {r : V → Hp → VK → Prop} (h : EM ta g fun s1 g1 => ∃ s, RC1 r g1 s1 s ∧ K s g1) : EM (tUn r ta) g K := fun H0 σ H Q sat q => by
  refine h H0 σ H _ sat fun x H1 s1 g1 k1 e1 sat1 sm1 h1 => ?_
  obtain ⟨s, rc, k⟩ := k1
  exact rc H0 σ H1 x Q sat1 h1 fun z H3 sm3 hz => q z H3 s g1 k e1 (sat1.mono sm3) (sm1.trans (offs_mono sm3)) hz
theorem EX.un {r : V → Hp → VK → Prop} (ha : EX ta g s1) (rc : RC1 r g s1 s) : EX (tUn r ta) g s := EM.un (ha.em ⟨s, rc, rfl, rfl⟩)
theorem EA.mono {t : TA} {L L' : List Sl → GS → Prop} (h : EA t g L) (m : ∀ s g', L s g' → L' s g') : EA t g L' := fun H0 σ H Q sat q => h H0 σ H Q sat fun x H' s g' k => q x H' s g' (m s g' k)
theorem EAX.ea {t : TA} {L : List Sl → GS → Prop} (h : EAX t g ss) (k : L ss g) : EA t g L := EA.mono h fun s' g' e => by obtain ⟨rfl, rfl⟩ := e; exact k
theorem EA.nil {L : List Sl → GS → Prop} (k : L [] g) : EA tNil g L := fun H0 σ H Q sat q => q [] H [] g k rfl sat (Same.refl _) .nil
theorem EA.cons {t : TA} {L : List Sl → GS → Prop} (h : EM ta g fun s g1 => EA t g1 fun ss g2 => L (s :: ss) g2) : EA (tCons ta t) g L := fun H0 σ H Q sat q => by
  refine h H0 σ H _ sat fun x H1 s1 g1 k1 e1 sat1 sm1 h1 => k1 H0 σ H1 _ sat1 fun xs H2 ss g2 k2 e2 sat2 sm2 h2 => ?_
  exact q _ H2 _ g2 k2 (e2.trans e1) sat2 (sm1.trans sm2) (.cons (h1.to sm2) h2)
theorem EAX.nil : EAX tNil g [] := EA.nil ⟨rfl, rfl⟩
theorem EAX.cons {t : TA} (h : EX ta g s) (r : EAX t g ss) : EAX (tCons ta t) g (s :: ss) := EA.cons (h.em (r.ea ⟨rfl, rfl⟩))
theorem EM.cb {r : List V → Hp → VK → Prop} {t : TA} (h : EA t g fun ss g1 => ∃ s, RCn r g1 ss s ∧ K s g1) : EM (tCB r t) g K := fun H0 σ H Q sat q => by
  refine h H0 σ H _ sat fun xs H1 ss g1 k1 e1 sat1 sm1 h1 => ?_
  obtain ⟨s, rc, k⟩ := k1
  exact rc H0 σ H1 xs Q sat1 h1 fun z H3 sm3 hz => q z H3 s g1 k e1 (sat1.mono sm3) (sm1.trans (offs_mono sm3)) hz
theorem EX.cb {r : List V → Hp → VK → Prop} {t : TA} (h : EAX t g ss) (rc : RCn r g ss s) : EX (tCB r t) g s := EM.cb (h.ea ⟨s, rc, rfl, rfl⟩)
/-! tuples, lists of data -/
theorem Sat.newNot {H0 : Hp} {σ : L2.St} {H : Hp} (sat : Sat H0 g σ H) {p : Addr} (hp : H p = none) : p ∉ g.l := fun z => by
  obtain ⟨o, h⟩ := sat.dom p z
  rw [hp] at h; cases h
theorem EM.tup {t : TA} (h : EA t g fun ss g1 => ∃ ds, ss = ds.map Sl.dat ∧ ds.length ≤ 1000000 ∧ K (.dat (.tuple ds)) g1) : EM (tTup t) g K := fun H0 σ H Q sat q => by
  refine h H0 σ H _ sat fun xs H1 ss g1 k1 e1 sat1 sm1 h1 => ?_
  obtain ⟨ds, rfl, hz, k⟩ := k1
  refine ⟨by rw [h1.len, List.length_map, sizeLine_eq]; omega, fun p hp => ?_⟩
  have np := sat1.newNot hp
  have sm := same_new' (o := .tup xs) hp
  exact q _ _ _ g1 k e1 (sat1.mono sm) (sm1.trans (offs_mono sm)) (.tup (offs_of np upd_same) (h1.dats.to (offs_mono sm)))
theorem EM.lst {t : TA} (h : EA t g fun ss g1 => ∃ ds, ss = ds.map Sl.dat ∧ ds.length ≤ 1000000 ∧ K (.dat (.list ds)) g1) : EM (tLst t) g K := fun H0 σ H Q sat q => by
  refine h H0 σ H _ sat fun xs H1 ss g1 k1 e1 sat1 sm1 h1 => ?_
  obtain ⟨ds, rfl, hz, k⟩ := k1
  refine ⟨by rw [h1.len, List.length_map, sizeLine_eq]; omega, fun p hp => ?_⟩
  have np := sat1.newNot hp
  have sm := same_new' (o := .lst xs) hp
  exact q _ _ _ g1 k e1 (sat1.mono sm) (sm1.trans (offs_mono sm)) (.lst (offs_of np upd_same) (h1.dats.to (offs_mono sm)))
theorem EX.tup {t : TA} {ds : List PyData} (h : EAX t g (ds.map Sl.dat)) (hz : ds.length ≤ 1000000 := by simp) : EX (tTup t) g (.dat (.tuple ds)) := EM.tup (h.ea ⟨ds, rfl, hz, rfl, rfl⟩)
theorem EX.lst {t : TA} {ds : List PyData} (h : EAX t g (ds.map Sl.dat)) (hz : ds.length ≤ 1000000 := by simp) : EX (tLst t) g (.dat (.list ds)) := EM.lst (h.ea ⟨ds, rfl, hz, rfl, rfl⟩)
/-- data one by one -/
inductive EDs (g : GS) : TA → List PyData → Prop
  | nil : EDs g tNil []
  | cons {ta : TE} {t : TA} {d : PyData} {ds : List PyData} : EX ta g (.dat d) → EDs g t ds → EDs g (tCons ta t) (d :: ds)
theorem EDs.ea {t : TA} {ds : List PyData} (h : EDs g t ds) : EAX t g (ds.map Sl.dat) := by
  induction h with
  | nil => exact .nil
  | cons h _ ih => exact .cons h ih
/-! an own list is laid -/
theorem GS.addO_l (g : GS) (a : Addr) (o : OD) : (g.addO a o).l = a :: g.l := rfl
theorem offs_cons_new {l : List Addr} {p : Addr} {H H' : Hp} (e : Same H H') (hp : H p = none) : Same (offs l H) (offs (p :: l) H') := fun b o h => by
  obtain ⟨n, h⟩ := offs_at h
  refine offs_of (fun z => ?_) (e b o h)
  rcases List.mem_cons.mp z with z | z
  · rw [z, hp] at h; cases h
  · exact n z
theorem Sat.addO {H0 : Hp} {σ : L2.St} {H H' : Hp} (sat : Sat H0 g σ H) {p : Addr} {o : OD} (hp : H p = none) (e : Same H H') (ho : HoldO (p :: g.l) H' p o) : Sat H0 (g.addO p o) σ H' := by
  have sm := offs_cons_new (l := g.l) e hp
  refine ⟨sat.len, fun i s hs n => ?_, fun q hq => ?_, fun q hq => (sat.gn q hq).same e, ?_, fun a ha => ?_, fun b u n hb => e _ _ (sat.same b u n hb), fun a ha => ?_⟩
  · obtain ⟨v, h1, h2⟩ := sat.sl i s hs n
    exact ⟨v, h1, h2.to sm⟩
  · rcases List.mem_cons.mp hq with z | z
    · rw [z]; exact ho
    · exact (sat.ow q z).to sm (e _)
  · exact List.nodup_cons.mpr ⟨sat.newNot hp, sat.nd⟩
  · rcases List.mem_cons.mp ha with z | z
    · rw [z]
      cases o with
      | lst ss => obtain ⟨vs, h, _⟩ := ho; exact ⟨_, h⟩
      | dk kvs => obtain ⟨vs, h, _⟩ := ho; exact ⟨_, h⟩
      | tup ss => obtain ⟨vs, h, _⟩ := ho; exact ⟨_, h⟩
    · obtain ⟨u, h⟩ := sat.dom a z
      exact ⟨u, e _ _ h⟩
  · rcases List.mem_cons.mp ha with z | z
    · rw [z]
      by_cases hpw : p ∈ g.pw
      · exact .inl hpw
      · refine .inr ?_
        cases w : H0 p with
        | none => rfl
        | some u => rw [sat.same p u hpw w] at hp; cases hp
    · exact sat.fresh a z
theorem EM.ownLst {t : TA} (h : EA t g fun ss g1 => ss.length ≤ 1000000 ∧ ∀ a, a ∉ g1.l → K (.con (.ref a)) (g1.addO a (.lst ss))) : EM (tLst t) g K := fun H0 σ H Q sat q => by
  refine h H0 σ H _ sat fun xs H1 ss g1 k1 e1 sat1 sm1 h1 => ?_
  obtain ⟨hz, k⟩ := k1
  refine ⟨by rw [h1.len, sizeLine_eq]; omega, fun p hp => ?_⟩
  have sm := same_new' (o := .lst xs) hp
  have sm2 := offs_cons_new (l := g1.l) sm hp
  exact q _ _ _ _ (k p (sat1.newNot hp)) e1 (sat1.addO hp sm ⟨xs, upd_same, h1.to sm2⟩) (sm1.trans sm2) rfl
theorem EM.ownTup {t : TA} (h : EA t g fun ss g1 => ss.length ≤ 1000000 ∧ ∀ a, a ∉ g1.l → K (.con (.ref a)) (g1.addO a (.tup ss))) : EM (tTup t) g K := fun H0 σ H Q sat q => by
  refine h H0 σ H _ sat fun xs H1 ss g1 k1 e1 sat1 sm1 h1 => ?_
  obtain ⟨hz, k⟩ := k1
  refine ⟨by rw [h1.len, sizeLine_eq]; omega, fun p hp => ?_⟩
  have sm := same_new' (o := .tup xs) hp
  have sm2 := offs_cons_new (l := g1.l) sm hp
  exact q _ _ _ _ (k p (sat1.newNot hp)) e1 (sat1.addO hp sm ⟨xs, upd_same, h1.to sm2⟩) (sm1.trans sm2) rfl
end
end Hw

set_option Elab.async false
set_option linter.all false
set_option maxRecDepth 100000
set_option maxHeartbeats 4000000
/-! tests, statements, loops over pure states -/
namespace Hw
open PySem PySem.Spec PyProof.Rows L2
section
variable {g : GS} {K K' : Sl → GS → Prop} {te ta tb tc : TE} {tt tu : TT} {s s1 s2 s3 : Sl} {ss : List Sl} {KT KT' : Bool → GS → Prop} {b c : Bool}
/-! ### tests -/
theorem TM.mono (h : TM tt g KT) (m : ∀ b g', KT b g' → KT' b g') : TM tt g KT' := fun H0 σ H Q sat q => h H0 σ H Q sat fun x H' g' k => q x H' g' (m x g' k)
theorem TX.tm (h : TX tt g b) (k : KT b g) : TM tt g KT := TM.mono h fun b' g' e => by obtain ⟨rfl, rfl⟩ := e; exact k
theorem TX.cast (h : TX tt g b) (e : b = c) : TX tt g c := e ▸ h
theorem hold_bool {l : List Addr} {H : Hp} {x : V} {b : Bool} (h : Hold l H x (.dat (.bool b))) : x = .bl b := by cases h; rfl
theorem hold_int {l : List Addr} {H : Hp} {x : V} {i : Int} (h : Hold l H x (.dat (.int i))) : x = .int i := by cases h; rfl
theorem hold_str {l : List Addr} {H : Hp} {x : V} {z : Str} (h : Hold l H x (.dat (.str z))) : x = .str z := by cases h; rfl
theorem hold_non {l : List Addr} {H : Hp} {x : V} (h : Hold l H x (.dat .none)) : x = .non := by cases h; rfl
theorem TM.test (h : EM te g fun s g1 => ∃ b, s = .dat (.bool b) ∧ KT b g1) : TM (tTest te) g KT := fun H0 σ H Q sat q => by
  refine h H0 σ H _ sat fun x H' s g' k e sat' sm hx => ?_
  obtain ⟨b, rfl, k⟩ := k
  exact ⟨b, hold_bool hx, q b H' g' k e sat' sm⟩
theorem TM.tB (h : EM te g fun s g1 => ∃ b, s = .dat (.bool b) ∧ KT b g1) : TM (tB te) g KT := TM.test h
theorem TX.test (h : EX te g (.dat (.bool b))) : TX (tTest te) g b := TM.test (h.em ⟨b, rfl, rfl, rfl⟩)
theorem TX.tB (h : EX te g (.dat (.bool b))) : TX (tB te) g b := TX.test h
theorem TM.and (h : TM tt g fun b g1 => if b = true then TM tu g1 KT else KT false g1) : TM (tAnd tt tu) g KT := fun H0 σ H Q sat q => by
  refine h H0 σ H _ sat fun b H' g' k e sat' sm => ?_
  cases b with
  | true =>
    rw [if_pos rfl] at k ⊢
    exact k H0 σ H' Q sat' fun b2 H2 g2 k2 e2 sat2 sm2 => q b2 H2 g2 k2 (e2.trans e) sat2 (sm.trans sm2)
  | false =>
    rw [if_neg (by decide)] at k ⊢
    exact q false H' g' k e sat' sm
theorem TM.or (h : TM tt g fun b g1 => if b = true then KT true g1 else TM tu g1 KT) : TM (tOr tt tu) g KT := fun H0 σ H Q sat q => by
  refine h H0 σ H _ sat fun b H' g' k e sat' sm => ?_
  cases b with
  | true =>
    rw [if_pos rfl] at k ⊢
    exact q true H' g' k e sat' sm
  | false =>
    rw [if_neg (by decide)] at k ⊢
    exact k H0 σ H' Q sat' fun b2 H2 g2 k2 e2 sat2 sm2 => q b2 H2 g2 k2 (e2.trans e) sat2 (sm.trans sm2)
theorem TX.and (h : TX tt g b) (k : b = true → TX tu g c) : TX (tAnd tt tu) g (b && c) := TM.and (h.tm (by
  cases b with
  | true => exact k rfl
  | false => exact ⟨rfl, rfl⟩))
theorem TX.or (h : TX tt g b) (k : b = false → TX tu g c) : TX (tOr tt tu) g (b || c) := TM.or (h.tm (by
  cases b with
  | true => exact ⟨rfl, rfl⟩
  | false => exact k rfl))
theorem TX.not (h : TX tt g b) : TX (tNot tt) g (!b) := fun H0 σ H Q sat q => h H0 σ H _ sat fun b' H' g' k e sat' sm => by
  obtain ⟨rfl, rfl⟩ := k
  exact q _ H' _ ⟨rfl, rfl⟩ e sat' sm
theorem TM.not (h : TM tt g fun b g1 => KT (!b) g1) : TM (tNot tt) g KT := fun H0 σ H Q sat q => h H0 σ H _ sat fun b' H' g' k e sat' sm => q _ H' _ k e sat' sm
theorem TX.yes : TX tYes g true := fun H0 σ H Q sat q => q true H g ⟨rfl, rfl⟩ rfl sat (Same.refl _)
theorem isEmpty_len {α β : Type} {xs : List α} {ys : List β} (h : xs.length = ys.length) : (!ys.isEmpty) = !xs.isEmpty := by cases xs <;> cases ys <;> simp at h ⊢
/-- a test by truth -/
def TrS : Sl → Option Bool
  | .dat .none => some false
  | .dat (.bool b) => some b
  | .dat (.int i) => some (i != 0)
  | .dat (.list ds) => some (!ds.isEmpty)
  | .dat (.tuple ds) => some (!ds.isEmpty)
  | _ => none
theorem TX.truth {KF : PySem.W.Frag} (h : EX te g s) (e : TrS s = some b) : TX (fun σ H Q => te σ H fun x H' => ∃ k, TruV KF x H' k ∧ Q k H') g b := fun H0 σ H Q sat q => by
  refine h.go sat fun x H' sat' sm hx => ⟨b, ?_, q b H' g ⟨rfl, rfl⟩ rfl sat' sm⟩
  cases s with
  | no => cases e
  | con v => cases e
  | scr K ns => cases e
  | dat d =>
    cases d with
    | none => cases e; cases hold_non hx; rfl
    | bool b' => cases e; cases hold_bool hx; rfl
    | int i => cases e; cases hold_int hx; rfl
    | str z => cases e
    | list ds =>
      cases e
      cases hx with
      | lst h1 h2 => exact .inl ⟨_, .inl (.inl (offs_at h1).2), isEmpty_len h2.len⟩
    | tuple ds =>
      cases e
      cases hx with
      | tup h1 h2 => exact .inr (.inl ⟨_, .inl (.inl (offs_at h1).2), isEmpty_len h2.len⟩)
    | dict kv => cases e
/-! and, or, not as values -/
theorem EX.andV (h : EX ta g (.dat (.bool b))) (k : b = true → EX tb g (.dat (.bool c))) : EX (tAndV ta tb) g (.dat (.bool (b && c))) := EX.of fun H0 σ H Q sat q => h.go sat fun x H' sat' sm hx => by
  refine ⟨b, hold_bool hx, ?_⟩
  cases b with
  | true =>
    rw [if_pos rfl]
    exact (k rfl).go sat' fun y H2 sat2 sm2 hy => q y H2 sat2 (sm.trans sm2) hy
  | false =>
    rw [if_neg (by decide)]
    exact q _ H' sat' sm (.bl false)
theorem EX.orV (h : EX ta g (.dat (.bool b))) (k : b = false → EX tb g (.dat (.bool c))) : EX (tOrV ta tb) g (.dat (.bool (b || c))) := EX.of fun H0 σ H Q sat q => h.go sat fun x H' sat' sm hx => by
  refine ⟨b, hold_bool hx, ?_⟩
  cases b with
  | true =>
    rw [if_pos rfl]
    exact q _ H' sat' sm (.bl true)
  | false =>
    rw [if_neg (by decide)]
    exact (k rfl).go sat' fun y H2 sat2 sm2 hy => q y H2 sat2 (sm.trans sm2) hy
theorem EX.notV (h : EX ta g (.dat (.bool b))) : EX (tNotV ta) g (.dat (.bool (!b))) := EX.of fun H0 σ H Q sat q => h.go sat fun x H' sat' sm hx => ⟨b, hold_bool hx, q _ H' sat' sm (.bl _)⟩
theorem EM.andV (h : EM ta g fun s g1 => ∃ b, s = .dat (.bool b) ∧ if b = true then EM tb g1 K else K (.dat (.bool false)) g1) : EM (tAndV ta tb) g K := fun H0 σ H Q sat q => by
  refine h H0 σ H _ sat fun x H' s g' k e sat' sm hx => ?_
  obtain ⟨b, rfl, k⟩ := k
  refine ⟨b, hold_bool hx, ?_⟩
  cases b with
  | true =>
    rw [if_pos rfl] at k ⊢
    exact k H0 σ H' Q sat' fun y H2 s2 g2 k2 e2 sat2 sm2 hy => q y H2 s2 g2 k2 (e2.trans e) sat2 (sm.trans sm2) hy
  | false =>
    rw [if_neg (by decide)] at k ⊢
    exact q _ H' _ g' k e sat' sm (.bl false)
theorem EM.orV (h : EM ta g fun s g1 => ∃ b, s = .dat (.bool b) ∧ if b = true then K (.dat (.bool true)) g1 else EM tb g1 K) : EM (tOrV ta tb) g K := fun H0 σ H Q sat q => by
  refine h H0 σ H _ sat fun x H' s g' k e sat' sm hx => ?_
  obtain ⟨b, rfl, k⟩ := k
  refine ⟨b, hold_bool hx, ?_⟩
  cases b with
  | true =>
    rw [if_pos rfl] at k ⊢
    exact q _ H' _ g' k e sat' sm (.bl true)
  | false =>
    rw [if_neg (by decide)] at k ⊢
    exact k H0 σ H' Q sat' fun y H2 s2 g2 k2 e2 sat2 sm2 hy => q y H2 s2 g2 k2 (e2.trans e) sat2 (sm.trans sm2) hy
theorem EM.ifE (h : TM tt g fun b g1 => if b = true then EM ta g1 K else EM tb g1 K) : EM (tIf tt ta tb) g K := fun H0 σ H Q sat q => by
  refine h H0 σ H _ sat fun b H' g' k e sat' sm => ?_
  cases b with
  | true =>
    rw [if_pos rfl] at k ⊢
    exact k H0 σ H' Q sat' fun y H2 s2 g2 k2 e2 sat2 sm2 hy => q y H2 s2 g2 k2 (e2.trans e) sat2 (sm.trans sm2) hy
  | false =>
    rw [if_neg (by decide)] at k ⊢
    exact k H0 σ H' Q sat' fun y H2 s2 g2 k2 e2 sat2 sm2 hy => q y H2 s2 g2 k2 (e2.trans e) sat2 (sm.trans sm2) hy
theorem EX.ifE (h : TX tt g b) (k1 : b = true → EX ta g s) (k2 : b = false → EX tb g s) : EX (tIf tt ta tb) g s := EM.ifE (h.tm (by
  cases b with
  | true => exact k1 rfl
  | false => exact k2 rfl))
theorem EX.ifD {d e : PyData} (h : TX tt g b) (k1 : b = true → EX ta g (.dat d)) (k2 : b = false → EX tb g (.dat e)) : EX (tIf tt ta tb) g (.dat (if b = true then d else e)) := EX.ifE h (fun z => by rw [if_pos z]; exact k1 z) (fun z => by rw [if_neg (by rw [z]; decide)]; exact k2 z)
theorem EX.chain {r r' : R2} (ha : EX ta g s1) (hb : EX tb g s2) (rc : RC2 r g s1 s2 (.dat (.bool b))) (hc : b = true → ∃ s3, EX tc g s3 ∧ RC2 r' g s2 s3 (.dat (.bool c))) : EX (tChain r r' ta tb tc) g (.dat (.bool (b && c))) := EX.of fun H0 σ H Q sat q => by
  refine ha.go sat fun x H1 sat1 sm1 hx => hb.go sat1 fun y H2 sat2 sm2 hy => rc H0 σ H2 x y _ sat2 (hx.to sm2) hy fun z H3 e3 hz => ⟨b, hold_bool hz, ?_⟩
  have sat3 := sat2.mono e3
  have sm3 := sm1.trans (sm2.trans (offs_mono e3))
  cases b with
  | true =>
    rw [if_pos rfl]
    obtain ⟨s3, h3, rc3⟩ := hc rfl
    exact h3.go sat3 fun w H4 sat4 sm4 hw => rc3 H0 σ H4 y w _ sat4 ((hy.to (offs_mono e3)).to sm4) hw fun z H5 e5 hz => q z H5 (sat4.mono e5) (sm3.trans (sm4.trans (offs_mono e5))) hz
  | false =>
    rw [if_neg (by decide)]
    exact q _ H3 sat3 sm3 (.bl false)
end
/-! ### statements -/
structure Out where
  nx : GS → Prop
  rt : Sl → GS → Prop
  bk : GS → Prop := fun _ => False
  ct : GS → Prop := fun _ => False
structure Real (H0 : Hp) (g : GS) (H : Hp) (O : Out) (D : Ends) : Prop where
  nx : ∀ g' σ' H', O.nx g' → Sat H0 g' σ' H' → Same (offs g.l H) (offs g'.l H') → D.nx σ' H'
  rt : ∀ s g' σ' x H', O.rt s g' → Sat H0 g' σ' H' → Same (offs g.l H) (offs g'.l H') → Hold g'.l H' x s → D.rt x H'
  bk : ∀ g' σ' H', O.bk g' → Sat H0 g' σ' H' → Same (offs g.l H) (offs g'.l H') → D.bk σ' H'
  ct : ∀ g' σ' H', O.ct g' → Sat H0 g' σ' H' → Same (offs g.l H) (offs g'.l H') → D.ct σ' H'
theorem Real.to {H0 : Hp} {g g1 : GS} {H H1 : Hp} {O : Out} {D : Ends} (r : Real H0 g H O D) (e : Same (offs g.l H) (offs g1.l H1)) : Real H0 g1 H1 O D :=
  ⟨fun g' σ' H' h s sm => r.nx g' σ' H' h s (e.trans sm), fun s g' σ' x H' h st sm => r.rt s g' σ' x H' h st (e.trans sm), fun g' σ' H' h s sm => r.bk g' σ' H' h s (e.trans sm), fun g' σ' H' h s sm => r.ct g' σ' H' h s (e.trans sm)⟩
def SX (t : TS) (g : GS) (O : Out) : Prop := ∀ H0 σ H D, Sat H0 g σ H → Real H0 g H O D → t D σ H
section
variable {g : GS} {K K' : Sl → GS → Prop} {te ta tb tc : TE} {tt tu : TT} {s s1 s2 s3 : Sl} {ss : List Sl} {b c : Bool} {O : Out} {t u : TS}
theorem SX.seq (h : SX t g { O with nx := fun g1 => SX u g1 O }) : SX (tSeq t u) g O := fun H0 σ H D sat r => by
  refine h H0 σ H { D with nx := u D } sat ⟨fun g' σ' H' h s sm => h H0 σ' H' D s (r.to sm), r.rt, r.bk, r.ct⟩
theorem SX.next (h : O.nx g) : SX tNext g O := fun H0 σ H D sat r => r.nx g σ H h sat (Same.refl _)
theorem SX.brk (h : O.bk g) : SX tBreak g O := fun H0 σ H D sat r => r.bk g σ H h sat (Same.refl _)
theorem SX.cont (h : O.ct g) : SX tCont g O := fun H0 σ H D sat r => r.ct g σ H h sat (Same.refl _)
theorem SX.setM {i : Nat} (h : EM te g fun s g1 => O.nx (g1.put i s)) : SX (tAsg te (gName i)) g O := fun H0 σ H D sat r => by
  refine h H0 σ H _ sat fun x H' s g' k e sat' sm hx => ?_
  exact r.nx _ _ H' k (sat'.put hx) sm
theorem SX.set {i : Nat} (h : EX te g s) (k : O.nx (g.put i s)) : SX (tAsg te (gName i)) g O := SX.setM (h.em k)
theorem SX.retM (h : EM te g O.rt) : SX (tRet te) g O := fun H0 σ H D sat r => h H0 σ H _ sat fun x H' s g' k e sat' sm hx => r.rt s g' σ x H' k sat' sm hx
theorem SX.ret (h : EX te g s) (k : O.rt s g) : SX (tRet te) g O := SX.retM (h.em k)
theorem SX.retN (k : O.rt (.dat .none) g) : SX tRetN g O := fun H0 σ H D sat r => r.rt _ g σ _ H k sat (Same.refl _) .non
theorem SX.dropM (h : EM te g fun _ g1 => O.nx g1) : SX (tDrop te) g O := fun H0 σ H D sat r => h H0 σ H _ sat fun x H' s g' k e sat' sm hx => r.nx g' σ H' k sat' sm
theorem SX.drop (h : EX te g s) (k : O.nx g) : SX (tDrop te) g O := SX.dropM (h.em k)
theorem SX.ifM (h : TM tt g fun b g1 => if b = true then SX t g1 O else SX u g1 O) : SX (tIfS tt t u) g O := fun H0 σ H D sat r => by
  refine h H0 σ H _ sat fun b H' g' k e sat' sm => ?_
  cases b with
  | true =>
    rw [if_pos rfl] at k ⊢
    exact k H0 σ H' D sat' (r.to sm)
  | false =>
    rw [if_neg (by decide)] at k ⊢
    exact k H0 σ H' D sat' (r.to sm)
theorem SX.ifS (h : TX tt g b) (k1 : b = true → SX t g O) (k2 : b = false → SX u g O) : SX (tIfS tt t u) g O := SX.ifM (h.tm (by
  cases b with
  | true => exact k1 rfl
  | false => exact k2 rfl))
theorem SX.mono {O' : Out} (h : SX t g O') (m : ∀ g', O'.nx g' → O.nx g') (mr : ∀ s g', O'.rt s g' → O.rt s g') (mb : ∀ g', O'.bk g' → O.bk g') (mc : ∀ g', O'.ct g' → O.ct g') : SX t g O := fun H0 σ H D sat r =>
  h H0 σ H D sat ⟨fun g' σ' H' h => r.nx g' σ' H' (m _ h), fun s g' σ' x H' h => r.rt s g' σ' x H' (mr _ _ h), fun g' σ' H' h => r.bk g' σ' H' (mb _ h), fun g' σ' H' h => r.ct g' σ' H' (mc _ h)⟩
theorem SX.aug {i : Nat} {ti : TIp} (hv : g.sl[i]? = some s1) (n : s1 ≠ .no := by intro z; cases z) (he : EX te g s2) (rc : RC2 ti g s1 s2 s3) (k : O.nx (g.put i s3)) : SX (tAug i te ti) g O := fun H0 σ H D sat r => by
  obtain ⟨v, h1, h2⟩ := sat.sl i s1 hv n
  refine ⟨v, h1, he.go sat fun y H1 sat1 sm1 hy => rc H0 σ H1 v y _ sat1 (h2.to sm1) hy fun z H2 e2 hz => ?_⟩
  exact r.nx _ _ H2 k ((sat1.mono e2).put hz) (sm1.trans (offs_mono e2))
/-! targets -/
def GX (tg : TG) (s : Sl) (g : GS) (N : GS → Prop) : Prop := ∀ H0 σ H x Q, Sat H0 g σ H → Hold g.l H x s → (∀ g' σ' H', N g' → Sat H0 g' σ' H' → Same (offs g.l H) (offs g'.l H') → Q σ' H') → tg x σ H Q
def GXs (tg : TGs) (ss : List Sl) (g : GS) (N : GS → Prop) : Prop := ∀ H0 σ H xs Q, Sat H0 g σ H → HoldA g.l H xs ss → (∀ g' σ' H', N g' → Sat H0 g' σ' H' → Same (offs g.l H) (offs g'.l H') → Q σ' H') → tg xs σ H Q
variable {N : GS → Prop}
theorem GX.name {i : Nat} (k : N (g.put i s)) : GX (gName i) s g N := fun H0 σ H x Q sat hx q => q _ _ H k (sat.put hx) (Same.refl _)
theorem GXs.nil (k : N g) : GXs gNil [] g N := fun H0 σ H xs Q sat hx q => by cases hx; exact ⟨rfl, q g σ H k sat (Same.refl _)⟩
theorem GXs.cons {tg : TG} {tgs : TGs} (h : GX tg s g fun g1 => GXs tgs ss g1 N) : GXs (gCons tg tgs) (s :: ss) g N := fun H0 σ H xs Q sat hx q => by
  cases hx with
  | cons h1 h2 =>
    refine ⟨_, _, rfl, h H0 σ H _ _ sat h1 fun g1 σ1 H1 k1 sat1 sm1 => ?_⟩
    exact k1 H0 σ1 H1 _ _ sat1 (h2.to sm1) fun g2 σ2 H2 k2 sat2 sm2 => q g2 σ2 H2 k2 sat2 (sm1.trans sm2)
theorem GX.tup {KF : PySem.W.Frag} {n : Nat} {tgs : TGs} {ds : List PyData} (hn : ds.length = n) (h : GXs tgs (ds.map Sl.dat) g N) : GX (gTup KF n tgs) (.dat (.tuple ds)) g N := fun H0 σ H x Q sat hx q => by
  cases hx with
  | tup h1 h2 => exact ⟨_, _, rfl, .inl (.inl (offs_at h1).2), by rw [h2.len, hn], h H0 σ H _ _ sat (HoldA.of h2) q⟩
theorem SX.asgM {tg : TG} (h : EM te g fun s g1 => GX tg s g1 O.nx) : SX (tAsg te tg) g O := fun H0 σ H D sat r => by
  refine h H0 σ H _ sat fun x H' s g' k e sat' sm hx => ?_
  exact k H0 σ H' x _ sat' hx fun g2 σ2 H2 k2 sat2 sm2 => r.nx g2 σ2 H2 k2 sat2 (sm.trans sm2)
theorem SX.asg {tg : TG} (h : EX te g s) (k : GX tg s g O.nx) : SX (tAsg te tg) g O := SX.asgM (h.em k)
theorem SX.parM {i j : Nat} {ta : TA} (h : EA ta g fun ss g1 => ∃ a b, ss = [a, b] ∧ O.nx ((g1.put i a).put j b)) : SX (tPar i j ta) g O := fun H0 σ H D sat r => by
  refine h H0 σ H _ sat fun xs H' ss g' k e sat' sm hx => ?_
  obtain ⟨a, b, rfl, k⟩ := k
  cases hx with
  | cons h1 h2 =>
    cases h2 with
    | cons h2 h3 =>
      cases h3
      exact ⟨_, _, rfl, r.nx _ _ H' k ((sat'.put h1).put (show Hold (g'.put i a).l H' _ b from h2)) sm⟩
/-! loops -/
def WalksJ (J : It) (its : List Sl) (l : List Addr) (H : Hp) : Prop := ∀ l2 H2, Same (offs l H) (offs l2 H2) → (∀ a ∈ l2, ∃ o, H2 a = some o) →
  (∀ (i : Nat) (s : Sl), its[i]? = some s → J.go i H2 ∧ ∀ x H3, J.yld i H2 x H3 → Same H2 H3 ∧ Hold l2 H3 x s) ∧ J.stop its.length H2
def IT (wi : TI) (g : GS) (its : List Sl) : Prop := ∀ H0 σ H R, Sat H0 g σ H → (∀ J H', Sat H0 g σ H' → Same (offs g.l H) (offs g.l H') → WalksJ J its g.l H' → R J H') → wi σ H R
theorem SX.for_ {wi : TI} {tg : TG} {tb : TS} {its : List Sl} (hw : IT wi g its) (inv : Nat → GS → Prop) (h0 : inv 0 g)
    (turn : ∀ i s g', its[i]? = some s → inv i g' → GX tg s g' fun g2 => SX tb g2 { O with nx := inv (i + 1), ct := inv (i + 1), bk := O.nx }) (hd : ∀ g', inv its.length g' → O.nx g') : SX (tFor wi tg tb) g O := fun H0 σ H D sat r => by
  refine hw H0 σ H _ sat fun J H1 sat1 sm1 wj => ?_
  refine ⟨fun i m σ' H' => m = its.length - i ∧ i ≤ its.length ∧ ∃ g', inv i g' ∧ Sat H0 g' σ' H' ∧ Same (offs g.l H1) (offs g'.l H'), ⟨_, rfl, Nat.zero_le _, g, h0, sat1, Same.refl _⟩, ?_⟩
  rintro i m σ' H' ⟨rfl, hi, g', hv, sat', sm'⟩
  obtain ⟨w1, w2⟩ := wj g'.l H' sm' sat'.dom
  by_cases hlt : i < its.length
  · obtain ⟨s, hs⟩ : ∃ s, its[i]? = some s := ⟨_, List.getElem?_eq_getElem hlt⟩
    obtain ⟨go, yl⟩ := w1 i s hs
    refine .inr ⟨go, fun σ2 H2 => ∃ g2, inv (i + 1) g2 ∧ Sat H0 g2 σ2 H2 ∧ Same (offs g.l H1) (offs g2.l H2), fun σ2 H2 h2 => ⟨its.length - (i + 1), by omega, rfl, hlt, h2⟩, fun x H3 hy => ?_⟩
    obtain ⟨e3, hx⟩ := yl x H3 hy
    have sm3 := sm'.trans (offs_mono (l := g'.l) e3)
    refine turn i s g' hs hv H0 σ' H3 x _ (sat'.mono e3) hx fun g4 σ4 H4 k4 sat4 sm4 => ?_
    have sm14 := sm3.trans sm4
    exact k4 H0 σ4 H4 _ sat4 ⟨fun g5 σ5 H5 h5 sat5 sm5 => ⟨g5, h5, sat5, sm14.trans sm5⟩, fun s g5 σ5 x H5 h5 sat5 sm5 => r.rt s g5 σ5 x H5 h5 sat5 (sm1.trans (sm14.trans sm5)),
      fun g5 σ5 H5 h5 sat5 sm5 => r.nx g5 σ5 H5 h5 sat5 (sm1.trans (sm14.trans sm5)), fun g5 σ5 H5 h5 sat5 sm5 => ⟨g5, h5, sat5, sm14.trans sm5⟩⟩
  · have e : i = its.length := by omega
    subst e
    exact .inl ⟨w2, r.nx g' σ' H' (hd g' hv) sat' (sm1.trans sm')⟩
theorem SX.while_ {tb : TS} (inv : Nat → GS → Prop) (m0 : Nat) (h0 : inv m0 g)
    (turn : ∀ m g', inv m g' → TM tt g' fun b g1 => if b = true then SX tb g1 { O with nx := fun g2 => ∃ m', m' < m ∧ inv m' g2, ct := fun g2 => ∃ m', m' < m ∧ inv m' g2, bk := O.nx } else O.nx g1) : SX (tWhile tt tb) g O := fun H0 σ H D sat r => by
  refine ⟨fun m σ' H' => ∃ g', inv m g' ∧ Sat H0 g' σ' H' ∧ Same (offs g.l H) (offs g'.l H'), ⟨m0, g, h0, sat, Same.refl _⟩, ?_⟩
  rintro m σ' H' ⟨g', hv, sat', sm'⟩
  refine turn m g' hv H0 σ' H' _ sat' fun b H1 g1 k e1 sat1 sm1 => ?_
  have sm11 := sm'.trans sm1
  cases b with
  | true =>
    rw [if_pos rfl] at k ⊢
    refine ⟨fun σ2 H2 => ∃ m', m' < m ∧ ∃ g2, inv m' g2 ∧ Sat H0 g2 σ2 H2 ∧ Same (offs g.l H) (offs g2.l H2), fun σ2 H2 ⟨m', a, b⟩ => ⟨m', a, b⟩, ?_⟩
    exact k H0 σ' H1 _ sat1 ⟨fun g5 σ5 H5 ⟨m', a, h5⟩ sat5 sm5 => ⟨m', a, g5, h5, sat5, sm11.trans sm5⟩, fun s g5 σ5 x H5 h5 sat5 sm5 => r.rt s g5 σ5 x H5 h5 sat5 (sm11.trans sm5),
      fun g5 σ5 H5 h5 sat5 sm5 => r.nx g5 σ5 H5 h5 sat5 (sm11.trans sm5), fun g5 σ5 H5 ⟨m', a, h5⟩ sat5 sm5 => ⟨m', a, g5, h5, sat5, sm11.trans sm5⟩⟩
  | false =>
    rw [if_neg (by decide)] at k ⊢
    exact r.nx g1 σ' H1 k sat1 sm11
end
end Hw

set_option Elab.async false
set_option linter.all false
set_option maxRecDepth 100000
set_option maxHeartbeats 4000000
/-! walks and comprehensions over pure states -/
namespace Hw
open PySem PySem.Spec PyProof.Rows L2
/-! ### what is walked -/
section
variable {g : GS} {te ta tb : TE} {s s1 s2 : Sl} {KF : PySem.W.Frag}
theorem getElem?_map_some {α β : Type} {f : α → β} {l : List α} {i : Nat} {y : β} (h : (l.map f)[i]? = some y) : ∃ x, l[i]? = some x ∧ y = f x := by
  rw [List.getElem?_map] at h
  cases e : l[i]? with
  | none => rw [e] at h; cases h
  | some x => rw [e] at h; exact ⟨x, rfl, (Option.some.inj h).symm⟩
theorem IT.list {ds : List PyData} (h : EX te g (.dat (.list ds))) : IT (iList KF te) g (ds.map Sl.dat) := fun H0 σ H R sat q => by
  refine h.go sat fun x H1 sat1 sm1 hx => ?_
  cases hx with
  | @lst a vs _ h1 h2 =>
    refine ⟨a, rfl, ⟨vs, .inl (.inl (offs_at h1).2)⟩, q _ H1 sat1 sm1 ?_⟩
    intro l2 H2 sm _
    have h3 := sm _ _ h1
    have h4 := HoldA.of (h2.to sm)
    have sq : SqL KF H2 a vs := .inl (.inl (offs_at h3).2)
    have inj : ∀ xs, SqL KF H2 a xs → xs = vs ∨ True := fun _ _ => .inr trivial
    refine ⟨fun i s hs => ?_, vs, sq, by rw [List.length_map, h2.len]; exact Nat.le_refl _⟩
    obtain ⟨y, hy, hh⟩ := h4.get hs
    exact ⟨⟨vs, y, sq, hy⟩, fun x H3 ⟨e, hl⟩ => by
      subst e
      have := hl vs sq
      rw [hy] at this
      cases this
      exact ⟨Same.refl _, hh⟩⟩
theorem IT.tup {ds : List PyData} (h : EX te g (.dat (.tuple ds))) : IT (iTup KF te) g (ds.map Sl.dat) := fun H0 σ H R sat q => by
  refine h.go sat fun x H1 sat1 sm1 hx => ?_
  cases hx with
  | @tup a vs _ h1 h2 =>
    refine ⟨a, rfl, ⟨vs, .inl (.inl (offs_at h1).2)⟩, q _ H1 sat1 sm1 ?_⟩
    intro l2 H2 sm _
    have h3 := sm _ _ h1
    have h4 := HoldA.of (h2.to sm)
    have sq : SqT KF H2 a vs := .inl (.inl (offs_at h3).2)
    refine ⟨fun i s hs => ?_, vs, sq, by rw [List.length_map, h2.len]; exact Nat.le_refl _⟩
    obtain ⟨y, hy, hh⟩ := h4.get hs
    exact ⟨⟨vs, y, sq, hy⟩, fun x H3 ⟨e, hl⟩ => by
      subst e
      have := hl vs sq
      rw [hy] at this
      cases this
      exact ⟨Same.refl _, hh⟩⟩
def signs (x : Str) : List Sl := x.cps.toList.map fun c => Sl.dat (.str ⟨#[c]⟩)
theorem IT.str {x : Str} (h : EX te g (.dat (.str x))) : IT (iStr te) g (signs x) := fun H0 σ H R sat q => by
  refine h.go sat fun y H1 sat1 sm1 hx => ?_
  refine ⟨x, hold_str hx, q _ H1 sat1 sm1 ?_⟩
  intro l2 H2 sm _
  refine ⟨fun i s hs => ?_, by show x.cps.size ≤ (signs x).length; unfold signs; rw [List.length_map, Array.length_toList]; exact Nat.le_refl _⟩
  obtain ⟨c, hc, rfl⟩ := getElem?_map_some hs
  have hl : i < x.cps.size := by
    have := (List.getElem?_eq_some_iff.mp hc).1
    rw [Array.length_toList] at this; exact this
  refine ⟨hl, fun y H3 ⟨e, c', hc', ey⟩ => ?_⟩
  subst e
  rw [← Array.getElem?_toList, hc] at hc'
  cases hc'
  rw [ey]
  exact ⟨Same.refl _, .str _⟩
def rangeS (lo : Int) (n : Nat) : List Sl := (List.range n).map fun (i : Nat) => Sl.dat (.int (lo + (i : Int)))
theorem walks_range {l : List Addr} {H : Hp} {lo : Int} {n : Nat} : WalksJ (Itr lo n) (rangeS lo n) l H := fun l2 H2 sm _ => by
  refine ⟨fun i s hs => ?_, by show n ≤ (rangeS lo n).length; unfold rangeS; rw [List.length_map, List.length_range]; exact Nat.le_refl _⟩
  obtain ⟨j, hj, rfl⟩ := getElem?_map_some hs
  have hl := (List.getElem?_eq_some_iff.mp hj).1
  rw [List.length_range] at hl
  rw [List.getElem?_range hl] at hj
  cases hj
  exact ⟨hl, fun y H3 ⟨e, ey⟩ => by subst e; rw [ey]; exact ⟨Same.refl _, .int _⟩⟩
theorem IT.range1 {t : TA} {n : Nat} (h : EAX t g [.dat (.int (n : Int))]) (hn : n < 2 ^ 62) : IT (iRng1 t) g (rangeS 0 n) := fun H0 σ H R sat q => by
  refine h H0 σ H _ sat fun xs H1 ss g1 k _ sat1 sm1 hx => ?_
  obtain ⟨rfl, rfl⟩ := k
  cases hx with
  | cons h1 h2 =>
    cases h2
    refine ⟨n, by rw [hold_int h1], by omega, by omega, ?_⟩
    rw [Int.toNat_natCast]
    exact q _ H1 sat1 sm1 walks_range
theorem IT.range2 {t : TA} {lo hi : Int} (h : EAX t g [.dat (.int lo), .dat (.int hi)]) (h1 : -(2 ^ 62) ≤ lo) (h2 : lo < 2 ^ 62) (h3 : -(2 ^ 62) ≤ hi) (h4 : hi < 2 ^ 62) : IT (iRng2 t) g (rangeS lo (hi - lo).toNat) := fun H0 σ H R sat q => by
  refine h H0 σ H _ sat fun xs H1 ss g1 k _ sat1 sm1 hx => ?_
  obtain ⟨rfl, rfl⟩ := k
  cases hx with
  | cons a1 a2 =>
    cases a2 with
    | cons a2 a3 =>
      cases a3
      exact ⟨lo, hi, by rw [hold_int a1, hold_int a2], ⟨h1, h2, h3, h4⟩, q _ H1 sat1 sm1 walks_range⟩
/-- two lists side by side -/
def zipS (ds es : List PyData) : List Sl := (ds.zip es).map fun p => Sl.dat (.tuple [p.1, p.2])
theorem walks_zip {l : List Addr} {H : Hp} {a b : Addr} {vs ws : List V} {ds es : List PyData} (h1 : offs l H a = some (.lst vs)) (h2 : DtAll (offs l H) vs ds) (k1 : offs l H b = some (.lst ws)) (k2 : DtAll (offs l H) ws es) : WalksJ (Itz KF a b) (zipS ds es) l H := fun l2 H2 sm dom => by
  have h3 := sm _ _ h1
  have k3 := sm _ _ k1
  have h4 := HoldA.of (h2.to sm)
  have k4 := HoldA.of (k2.to sm)
  have sq : SqL KF H2 a vs := .inl (.inl (offs_at h3).2)
  have sq2 : SqL KF H2 b ws := .inl (.inl (offs_at k3).2)
  refine ⟨fun i s hs => ?_, vs, ws, sq, sq2, ?_⟩
  · obtain ⟨p, hp, rfl⟩ := getElem?_map_some hs
    obtain ⟨hi1, hi2⟩ := List.getElem?_zip_eq_some.mp hp
    obtain ⟨y, hy, hh⟩ := h4.get (show (ds.map Sl.dat)[i]? = some (.dat p.1) by rw [List.getElem?_map, hi1]; rfl)
    obtain ⟨z, hz, kk⟩ := k4.get (show (es.map Sl.dat)[i]? = some (.dat p.2) by rw [List.getElem?_map, hi2]; rfl)
    refine ⟨⟨vs, ws, y, z, sq, sq2, hy, hz⟩, ?_⟩
    rintro x H3 ⟨T, y', z', rfl, hT, rfl, q1, q2⟩
    have e1 := q1 vs sq
    have e2 := q2 ws sq2
    rw [hy] at e1
    rw [hz] at e2
    cases e1; cases e2
    have sm3 := same_new' (o := .tup [y, z]) hT
    have nT : T ∉ l2 := fun w => by
      obtain ⟨o, ho⟩ := dom T w
      rw [hT] at ho; cases ho
    refine ⟨sm3, .tup (offs_of nT upd_same) (.cons ?_ (.cons ?_ .nil))⟩
    · exact Dt.to hh (offs_mono sm3)
    · exact Dt.to kk (offs_mono sm3)
  · show vs.length ≤ (zipS ds es).length ∨ ws.length ≤ (zipS ds es).length
    unfold zipS
    rw [List.length_map, List.length_zip, h2.len, k2.len]
    omega
theorem IT.zip {t : TA} {ds es : List PyData} (h : EAX t g [.dat (.list ds), .dat (.list es)]) : IT (iZip KF t) g (zipS ds es) := fun H0 σ H R sat q => by
  refine h H0 σ H _ sat fun xs H1 ss g1 k _ sat1 sm1 hx => ?_
  obtain ⟨rfl, rfl⟩ := k
  cases hx with
  | cons a1 a2 =>
    cases a2 with
    | cons a2 a3 =>
      cases a3
      cases a1 with
      | lst b1 b2 =>
        cases a2 with
        | lst c1 c2 => exact ⟨_, _, _, _, rfl, .inl (.inl (offs_at b1).2), .inl (.inl (offs_at c1).2), q _ H1 sat1 sm1 (walks_zip b1 b2 c1 c2)⟩
def enumS (ds : List PyData) : List Sl := (ds.zipIdx).map fun p => Sl.dat (.tuple [.int (p.2 : Int), p.1])
end
/-! ### comprehensions -/
/-- a target sets names of the comprehension's own alone -/
def TgOk (tg : TG) (vs : List Nat) : Prop := ∀ x σ H Q, tg x σ H Q → tg x σ H fun σ' H' => wipe σ' vs = wipe σ vs ∧ Q σ' H'
def TgsOk (tg : TGs) (vs : List Nat) : Prop := ∀ xs σ H Q, tg xs σ H Q → tg xs σ H fun σ' H' => wipe σ' vs = wipe σ vs ∧ Q σ' H'
theorem wipe_get (σ : L2.St) (j : Nat) : ∀ vs : List Nat, (wipe σ vs)[j]? = if j ∈ vs then (if j < σ.length then some none else none) else σ[j]?
  | [] => by simp [wipe]
  | v :: vs => by
    unfold wipe
    rw [List.getElem?_set, wipe_length, wipe_get σ j vs]
    by_cases e : v = j
    · subst e
      simp
    · rw [if_neg e]
      have : j ≠ v := fun z => e z.symm
      simp [this]
theorem wipe_set {σ : L2.St} {i : Nat} {x : Option V} {vs : List Nat} (h : i ∈ vs) : wipe (σ.set i x) vs = wipe σ vs := by
  apply List.ext_getElem?
  intro j
  rw [wipe_get, wipe_get, List.length_set]
  by_cases e : j ∈ vs
  · rw [if_pos e, if_pos e]
  · rw [if_neg e, if_neg e, List.getElem?_set_ne (fun z : i = j => e (by rw [← z]; exact h))]
theorem wipe_wipe {σ : L2.St} {vs : List Nat} : wipe (wipe σ vs) vs = wipe σ vs := by
  apply List.ext_getElem?
  intro j
  rw [wipe_get, wipe_get, wipe_length]
  by_cases e : j ∈ vs
  · simp [e]
  · simp [e]
theorem TgOk.name {i : Nat} {vs : List Nat} (h : i ∈ vs := by simp) : TgOk (gName i) vs := fun x σ H Q q => ⟨wipe_set h, q⟩
theorem TgsOk.nil {vs : List Nat} : TgsOk gNil vs := fun xs σ H Q q => ⟨q.1, rfl, q.2⟩
theorem TgsOk.cons {i : Nat} {tgs : TGs} {vs : List Nat} (h : i ∈ vs) (k : TgsOk tgs vs) : TgsOk (gCons (gName i) tgs) vs := fun xs σ H Q q => by
  obtain ⟨v, r, e, q⟩ := q
  have q : tgs r (σ.set i (some v)) H Q := q
  refine ⟨v, r, e, ?_⟩
  have k2 := k r (σ.set i (some v)) H Q q
  rw [wipe_set h] at k2
  exact k2
theorem TgOk.tup {KF : PySem.W.Frag} {n : Nat} {tgs : TGs} {vs : List Nat} (k : TgsOk tgs vs) : TgOk (gTup KF n tgs) vs := fun x σ H Q q => by
  obtain ⟨a, xs, e, h1, h2, q⟩ := q
  exact ⟨a, xs, e, h1, h2, k xs σ H Q q⟩
section
variable {g : GS} {te : TE} {tt : TT} {wi : TI} {tg : TG} {vs : List Nat} {K : Sl → GS → Prop}
theorem Sat.resl {H0 : Hp} {g g' : GS} {σ σ' : L2.St} {H H' : Hp} (a : Sat H0 g σ H) (b : Sat H0 g' σ' H') (e : Same (offs g.l H) (offs g'.l H')) : Sat H0 { g' with sl := g.sl } σ H' where
  len := a.len
  sl := fun i s hs n => by
    obtain ⟨v, h1, h2⟩ := a.sl i s hs n
    exact ⟨v, h1, h2.to e⟩
  ow := b.ow
  gn := b.gn
  nd := b.nd
  dom := b.dom
  same := b.same
  fresh := b.fresh
/-- an own list is let go: it is data from now on -/
theorem Sat.drop1 {H0 : Hp} {g : GS} {σ : L2.St} {H : Hp} {p : Addr} {o : OD} (sat : Sat H0 (g.addO p o) σ H) : Sat H0 g σ H ∧ Same (offs (g.addO p o).l H) (offs g.l H) ∧ p ∉ g.l := by
  have sm : Same (offs (g.addO p o).l H) (offs g.l H) := fun b u h => by
    obtain ⟨n, h⟩ := offs_at h
    exact offs_of (fun z => n (List.mem_cons_of_mem _ z)) h
  have nd := List.nodup_cons.mp sat.nd
  refine ⟨⟨sat.len, fun i s hs n => ?_, fun q hq => (sat.ow q (List.mem_cons_of_mem _ hq)).to sm fun _ h => h, sat.gn, nd.2, fun a ha => sat.dom a (List.mem_cons_of_mem _ ha), sat.same, fun a ha => sat.fresh a (List.mem_cons_of_mem _ ha)⟩, sm, nd.1⟩
  obtain ⟨v, h1, h2⟩ := sat.sl i s hs n
  exact ⟨v, h1, h2.to sm⟩
theorem Sat.new1 {H0 : Hp} {g : GS} {σ : L2.St} {H : Hp} {p : Addr} {ds : List PyData} (sat : Sat H0 (g.addO p (.lst (ds.map Sl.dat))) σ H) : Dt (offs g.l H) (.ref p) (.list ds) := by
  obtain ⟨_, sm, np⟩ := sat.drop1
  obtain ⟨vs, h1, h2⟩ := sat.ow _ (List.mem_cons_self ..)
  exact .lst (offs_of np h1) (h2.dats.to sm)
/-- what stands at the head of one's own things is another one now -/
theorem Sat.upd1 {H0 : Hp} {g : GS} {σ : L2.St} {H : Hp} {p : Addr} {o o' : OD} {u : HO} (sat : Sat H0 (g.addO p o) σ H) (h : HoldO (p :: g.l) (upd H p u) p o') : Sat H0 (g.addO p o') σ (upd H p u) := by
  have sm : Same (offs (p :: g.l) H) (offs (p :: g.l) (upd H p u)) := fun b v h => by
    rw [offs_upd (List.mem_cons_self ..)]; exact h
  have nd := List.nodup_cons.mp sat.nd
  have ne : ∀ a ∈ g.l, a ≠ p := fun a ha z => nd.1 (z ▸ ha)
  have inl : ∀ q ∈ g.ow, q.1 ∈ g.l := fun q hq => List.mem_append_left _ (List.mem_map.mpr ⟨q, hq, rfl⟩)
  have ing : ∀ q ∈ g.gn, q.1 ∈ g.l := fun q hq => List.mem_append_right _ (List.mem_append_left _ (List.mem_map.mpr ⟨q, hq, rfl⟩))
  refine ⟨sat.len, fun i s hs n => ?_, fun q hq => ?_, fun q hq => ?_, sat.nd, fun a ha => ?_, fun b v n hb => ?_, sat.fresh⟩
  · obtain ⟨v, h1, h2⟩ := sat.sl i s hs n
    exact ⟨v, h1, h2.to sm⟩
  · rcases List.mem_cons.mp hq with z | z
    · rw [z]; exact h
    · exact (sat.ow q (List.mem_cons_of_mem _ z)).to sm fun v hv => by rw [upd_ne (ne _ (inl q z))]; exact hv
  · obtain ⟨a, b, c, h, r⟩ := sat.gn q hq
    exact ⟨a, b, c, by rw [upd_ne (ne _ (ing q hq))]; exact h, r⟩
  · by_cases z : a = p
    · rw [z]; exact ⟨u, upd_same⟩
    · obtain ⟨v, hv⟩ := sat.dom a ha
      exact ⟨v, by rw [upd_ne z]; exact hv⟩
  · rw [upd_ne]
    · exact sat.same b v n hb
    · intro z
      rcases sat.fresh p (List.mem_append_left _ (List.mem_cons_self ..)) with w | w
      · exact n (z ▸ w)
      · rw [z, w] at hb; cases hb
/-- the state within a comprehension whose list is at D -/
def GS.inC (g : GS) (vs : List Nat) (ow : List (Addr × OD)) (gn : List (Addr × Nat)) (D : Addr) (ds : List PyData) : GS := ⟨wipeS g.sl vs, (D, .lst (ds.map Sl.dat)) :: ow, gn, g.hd, g.pw⟩
def CompI (H0 : Hp) (g : GS) (σ : L2.St) (H1 : Hp) (D : Addr) (inv : Nat → List PyData → List (Addr × OD) → List (Addr × Nat) → Prop) (i : Nat) (H' : Hp) : Prop :=
  ∃ ds ow gn, inv i ds ow gn ∧ Sat H0 ⟨g.sl, (D, .lst (ds.map Sl.dat)) :: ow, gn, g.hd, g.pw⟩ σ H' ∧ Same (offs g.l H1) (offs (⟨g.sl, (D, .lst (ds.map Sl.dat)) :: ow, gn, g.hd, g.pw⟩ : GS).l H') ∧ ds.length ≤ i
theorem EM.lcU {its : List Sl} (hw : IT wi g its) (ok : TgOk tg vs) (hz : its.length ≤ 1000000) (inv : Nat → List PyData → List (Addr × OD) → List (Addr × Nat) → Prop) (h0 : inv 0 [] g.ow g.gn)
    (turn : ∀ i s ds ow gn D, its[i]? = some s → inv i ds ow gn → GX tg s (g.inC vs ow gn D ds) fun g2 => TM tt g2 fun b g3 => if b = true then EM te g3 fun s' g4 => g4.hd = g.hd ∧ g4.pw = g.pw ∧ ∃ d ow', s' = .dat d ∧ g4.ow = (D, .lst (ds.map Sl.dat)) :: ow' ∧ inv (i + 1) (ds ++ [d]) ow' g4.gn
      else g3.hd = g.hd ∧ g3.pw = g.pw ∧ ∃ ow', g3.ow = (D, .lst (ds.map Sl.dat)) :: ow' ∧ inv (i + 1) ds ow' g3.gn)
    {H0 : Hp} {σ : L2.St} {H : Hp} {Q : VK} (sat : Sat H0 g σ H)
    (q : ∀ D H' ds ow gn, inv its.length ds ow gn → Sat H0 ⟨g.sl, (D, .lst (ds.map Sl.dat)) :: ow, gn, g.hd, g.pw⟩ σ H' → Same (offs g.l H) (offs (⟨g.sl, (D, .lst (ds.map Sl.dat)) :: ow, gn, g.hd, g.pw⟩ : GS).l H') → Q (.ref D) H') : tLc wi tg tt te vs σ H Q := by
  refine hw H0 σ H _ sat fun J H1 sat1 sm1 wj D hD => ?_
  have smD := same_new' (o := .lst []) hD
  have satD : Sat H0 (g.addO D (.lst [])) σ (upd H1 D (.lst [])) := sat1.addO hD smD ⟨[], upd_same, .nil⟩
  have smD2 := offs_cons_new (l := g.l) smD hD
  refine ⟨fun i m H' => m = its.length - i ∧ i ≤ its.length ∧ ∃ ds ow gn, inv i ds ow gn ∧ Sat H0 ⟨g.sl, (D, .lst (ds.map Sl.dat)) :: ow, gn, g.hd, g.pw⟩ σ H' ∧ Same (offs g.l H1) (offs (⟨g.sl, (D, .lst (ds.map Sl.dat)) :: ow, gn, g.hd, g.pw⟩ : GS).l H') ∧ ds.length ≤ i,
    ⟨_, rfl, Nat.zero_le _, [], g.ow, g.gn, h0, satD, smD2, Nat.le_refl _⟩, ?_⟩
  rintro i m H' ⟨rfl, hi, ds, ow, gn, hv, sat', sm', hlen⟩
  obtain ⟨w1, w2⟩ := wj _ H' sm' sat'.dom
  by_cases hlt : i < its.length
  · obtain ⟨s, hs⟩ : ∃ s, its[i]? = some s := ⟨_, List.getElem?_eq_getElem hlt⟩
    obtain ⟨go, yl⟩ := w1 i s hs
    refine .inr ⟨go, CompI H0 g σ H1 D inv (i + 1),
      fun H2 h2 => ⟨its.length - (i + 1), by omega, rfl, hlt, h2⟩, fun x H3 hy => ?_⟩
    obtain ⟨e3, hx⟩ := yl x H3 hy
    have sat3 := sat'.mono e3
    have sm3 := sm'.trans (offs_mono (l := (⟨g.sl, (D, .lst (ds.map Sl.dat)) :: ow, gn, g.hd, g.pw⟩ : GS).l) e3)
    have satW : Sat H0 (g.inC vs ow gn D ds) (wipe σ vs) H3 := sat3.wipe vs
    have key := ok x (wipe σ vs) H3 (fun σ2 H2 => tt σ2 H2 fun b H3 => if b = true then te σ2 H3 fun y H4 => ∃ acc, H4 D = some (.lst acc) ∧ acc.length < sizeLine ∧ CompI H0 g σ H1 D inv (i + 1) (upd H4 D (.lst (acc ++ [y]))) else CompI H0 g σ H1 D inv (i + 1) H3) ?_
    · rw [wipe_wipe] at key
      exact key
    refine turn i s ds ow gn D hs hv H0 (wipe σ vs) H3 x _ satW hx fun g2 σ2 H2 k2 sat2 sm2 => ?_
    refine k2 H0 σ2 H2 _ sat2 fun b H5 g5 k5 e5 sat5 sm5 => ?_
    have sm2 : Same (offs (⟨g.sl, (D, .lst (ds.map Sl.dat)) :: ow, gn, g.hd, g.pw⟩ : GS).l H3) (offs g2.l H2) := sm2
    cases b with
    | false =>
      rw [if_neg (by decide)] at k5 ⊢
      obtain ⟨h1, h2, ow', h3, h4⟩ := k5
      obtain ⟨sl5, ow5, gn5, hd5, pw5⟩ := g5
      cases h1; cases h2; cases h3
      exact ⟨ds, ow', gn5, h4, Sat.resl sat3 sat5 (sm2.trans sm5), sm3.trans (sm2.trans sm5), by omega⟩
    | true =>
      rw [if_pos rfl] at k5 ⊢
      refine k5 H0 σ2 H5 _ sat5 fun y H6 s6 g6 k6 e6 sat6 sm6 h6 => ?_
      obtain ⟨h1, h2, d, ow', rfl, h3, h4⟩ := k6
      obtain ⟨sl6, ow6, gn6, hd6, pw6⟩ := g6
      cases h1; cases h2; cases h3
      have satR : Sat H0 ⟨g.sl, (D, .lst (ds.map Sl.dat)) :: ow', gn6, g.hd, g.pw⟩ σ H6 := Sat.resl sat3 sat6 (sm2.trans (sm5.trans sm6))
      obtain ⟨acc, a1, a2⟩ := satR.ow _ (List.mem_cons_self ..)
      refine ⟨acc, a1, by rw [a2.len, List.length_map, sizeLine_eq]; omega, ds ++ [d], ow', gn6, h4, ?_, ?_, by rw [List.length_append]; show ds.length + 1 ≤ i + 1; omega⟩
      · refine Sat.upd1 (g := ⟨g.sl, ow', gn6, g.hd, g.pw⟩) satR ⟨_, upd_same, ?_⟩
        rw [List.map_append]
        refine HoldA.app (a2.to fun b o h => ?_) (.cons ?_ .nil)
        · rw [offs_upd (List.mem_cons_self ..)]; exact h
        · exact Hold.to (s := .dat d) h6 fun b o h => by
            show offs (D :: (⟨g.sl, ow', gn6, g.hd, g.pw⟩ : GS).l) _ b = some o
            rw [offs_upd (List.mem_cons_self ..)]; exact h
      · refine sm3.trans (sm2.trans (sm5.trans (sm6.trans fun b o h => ?_)))
        show offs (D :: (⟨g.sl, ow', gn6, g.hd, g.pw⟩ : GS).l) _ b = some o
        rw [offs_upd (List.mem_cons_self ..)]; exact h
  · have e : i = its.length := by omega
    subst e
    exact .inl ⟨w2, q D H' ds ow gn hv sat' (sm1.trans sm')⟩
/-- the list told as data -/
theorem EM.lc {its : List Sl} (hw : IT wi g its) (ok : TgOk tg vs) (hz : its.length ≤ 1000000) (inv : Nat → List PyData → List (Addr × OD) → List (Addr × Nat) → Prop) (h0 : inv 0 [] g.ow g.gn)
    (turn : ∀ i s ds ow gn D, its[i]? = some s → inv i ds ow gn → GX tg s (g.inC vs ow gn D ds) fun g2 => TM tt g2 fun b g3 => if b = true then EM te g3 fun s' g4 => g4.hd = g.hd ∧ g4.pw = g.pw ∧ ∃ d ow', s' = .dat d ∧ g4.ow = (D, .lst (ds.map Sl.dat)) :: ow' ∧ inv (i + 1) (ds ++ [d]) ow' g4.gn
      else g3.hd = g.hd ∧ g3.pw = g.pw ∧ ∃ ow', g3.ow = (D, .lst (ds.map Sl.dat)) :: ow' ∧ inv (i + 1) ds ow' g3.gn)
    (k : ∀ ds ow gn, inv its.length ds ow gn → K (.dat (.list ds)) ⟨g.sl, ow, gn, g.hd, g.pw⟩) : EM (tLc wi tg tt te vs) g K := fun H0 σ H Q sat q =>
  EM.lcU hw ok hz inv h0 turn sat fun D H' ds ow gn hv sat' sm' => by
    obtain ⟨s1, s2, s3⟩ := Sat.drop1 (g := ⟨g.sl, ow, gn, g.hd, g.pw⟩) sat'
    exact q _ H' _ _ (k ds ow gn hv) rfl s1 (sm'.trans s2) (Sat.new1 (g := ⟨g.sl, ow, gn, g.hd, g.pw⟩) sat')
/-- the list is one's own -/
theorem EM.lcO {its : List Sl} (hw : IT wi g its) (ok : TgOk tg vs) (hz : its.length ≤ 1000000) (inv : Nat → List PyData → List (Addr × OD) → List (Addr × Nat) → Prop) (h0 : inv 0 [] g.ow g.gn)
    (turn : ∀ i s ds ow gn D, its[i]? = some s → inv i ds ow gn → GX tg s (g.inC vs ow gn D ds) fun g2 => TM tt g2 fun b g3 => if b = true then EM te g3 fun s' g4 => g4.hd = g.hd ∧ g4.pw = g.pw ∧ ∃ d ow', s' = .dat d ∧ g4.ow = (D, .lst (ds.map Sl.dat)) :: ow' ∧ inv (i + 1) (ds ++ [d]) ow' g4.gn
      else g3.hd = g.hd ∧ g3.pw = g.pw ∧ ∃ ow', g3.ow = (D, .lst (ds.map Sl.dat)) :: ow' ∧ inv (i + 1) ds ow' g3.gn)
    (k : ∀ D ds ow gn, inv its.length ds ow gn → K (.con (.ref D)) ⟨g.sl, (D, .lst (ds.map Sl.dat)) :: ow, gn, g.hd, g.pw⟩) : EM (tLc wi tg tt te vs) g K := fun H0 σ H Q sat q =>
  EM.lcU hw ok hz inv h0 turn sat fun D H' ds ow gn hv sat' sm' => q _ H' _ _ (k D ds ow gn hv) rfl sat' sm' rfl
/-- nothing else is done in it -/
theorem EX.lc {α : Type} {xs : List α} {emb : α → Sl} (hw : IT wi g (xs.map emb)) (ok : TgOk tg vs) (p : α → Bool) (f : α → PyData) (hz : xs.length ≤ 1000000)
    (turn : ∀ x ∈ xs, ∀ D ds, GX tg (emb x) (g.inC vs g.ow g.gn D ds) fun g2 => (g2.ow = (D, .lst (ds.map Sl.dat)) :: g.ow ∧ g2.gn = g.gn ∧ g2.hd = g.hd ∧ g2.pw = g.pw) ∧ TX tt g2 (p x) ∧ (p x = true → EX te g2 (.dat (f x)))) : EX (tLc wi tg tt te vs) g (.dat (.list ((xs.filter p).map f))) := by
  refine EM.lc hw ok (by rw [List.length_map]; exact hz) (fun i ds ow gn => ds = ((xs.take i).filter p).map f ∧ ow = g.ow ∧ gn = g.gn) ⟨rfl, rfl, rfl⟩ ?_ ?_
  · rintro i s ds ow gn D hs ⟨rfl, rfl, rfl⟩
    obtain ⟨x, hx, rfl⟩ := getElem?_map_some hs
    have nx : xs.take (i + 1) = xs.take i ++ [x] := by rw [List.take_add_one, hx]; rfl
    intro H0 σ H v Q sat hv q
    refine turn x (List.mem_of_getElem? hx) D _ H0 σ H v Q sat hv fun g2 σ2 H2 k sat2 sm2 => q g2 σ2 H2 ?_ sat2 sm2
    obtain ⟨⟨e1, e2, e3, e4⟩, ht, he⟩ := k
    refine ht.tm ?_
    cases hp : p x with
    | true =>
      rw [if_pos rfl]
      refine (he hp).em ⟨e3, e4, f x, g.ow, rfl, e1, ?_, rfl, e2⟩
      rw [nx, List.filter_append, List.map_append, List.filter_cons_of_pos hp]
      rfl
    | false =>
      rw [if_neg (by decide)]
      refine ⟨e3, e4, g.ow, e1, ?_, rfl, e2⟩
      rw [nx, List.filter_append, List.filter_cons_of_neg (by rw [hp]; decide), List.filter_nil, List.append_nil]
  · rintro ds ow gn ⟨rfl, rfl, rfl⟩
    rw [List.length_map, List.take_length]
    exact ⟨rfl, rfl⟩
/-- no test -/
theorem EX.lcA {α : Type} {xs : List α} {emb : α → Sl} (hw : IT wi g (xs.map emb)) (ok : TgOk tg vs) (f : α → PyData) (hz : xs.length ≤ 1000000)
    (turn : ∀ x ∈ xs, ∀ D ds, GX tg (emb x) (g.inC vs g.ow g.gn D ds) fun g2 => (g2.ow = (D, .lst (ds.map Sl.dat)) :: g.ow ∧ g2.gn = g.gn ∧ g2.hd = g.hd ∧ g2.pw = g.pw) ∧ EX te g2 (.dat (f x))) : EX (tLc wi tg tYes te vs) g (.dat (.list (xs.map f))) := by
  have h := EX.lc (tt := tYes) hw ok (fun _ => true) f hz fun x hx D ds H0 σ H v Q sat hv q => turn x hx D ds H0 σ H v Q sat hv fun g2 σ2 H2 k => q g2 σ2 H2 ⟨k.1, TX.yes, fun _ => k.2⟩
  rwa [List.filter_eq_self.mpr fun _ _ => rfl] at h
end
end Hw

set_option Elab.async false
set_option linter.all false
set_option maxRecDepth 100000
set_option maxHeartbeats 4000000
/-! rules with the written part named; in of data; & and | of numbers from 0 on -/
namespace Hw
open PySem PySem.Spec PyProof.Rows L2
theorem bnot_bnot (x : Int) : Builtin.bitNot (Builtin.bitNot x) = x := by unfold Builtin.bitNot; omega
theorem band_nat (a b : Nat) : Builtin.bitAnd (a : Int) (b : Int) = ((a &&& b : Nat) : Int) := by
  unfold Builtin.bitAnd
  rw [decide_eq_true (Int.natCast_nonneg a), decide_eq_true (Int.natCast_nonneg b)]
  rfl
theorem bor_nat (a b : Nat) : Builtin.bitOr (a : Int) (b : Int) = ((a ||| b : Nat) : Int) := by
  unfold Builtin.bitOr
  have h : ∀ n : Nat, decide ((0 : Int) ≤ Builtin.bitNot (n : Int)) = false := fun n => decide_eq_false (by unfold Builtin.bitNot; omega)
  have e : Builtin.bitAnd (Builtin.bitNot (a : Int)) (Builtin.bitNot (b : Int)) = Builtin.bitNot ((((Builtin.bitNot (Builtin.bitNot (a : Int))).toNat ||| (Builtin.bitNot (Builtin.bitNot (b : Int))).toNat) : Nat) : Int) := by
    conv => lhs; unfold Builtin.bitAnd
    rw [h a, h b]
  rw [e, bnot_bnot, bnot_bnot, bnot_bnot]
  rfl
section
variable {X : Cx} {K : PySem.W.Frag}
theorem cr_anyK (h : X.K = K) (hc : X.calm = true) : CallR X (.builtin "any") (rAny K) := by subst h; exact cr_any hc
theorem op_inK (h : X.K = K) : OpR X (compareOp .In) (rIn K false) := by subst h; exact op_in_seq
theorem op_notInK (h : X.K = K) : OpR X (compareOp .NotIn) (rIn K true) := by subst h; exact op_notIn_seq
theorem pi_zipK {e e2 : Expr} {ta : TA} {p pos tpos : Pos} {elts : List Expr} {kk : Nat} (h : X.K = K) (hg : Gl X "zip") (hm : X.mg "zip" = none) (ha : PA X [e, e2] ta)
    (hs : starEach [e, e2] X.env = (false, eval e X.env) :: starEach [e2] X.env := by rfl) (hpl : (backTo pos (starEach [e2] X.env)).any (·.1) = false := by rfl) : PI X (.Tuple elts kk tpos) (.Call (.Name "zip" p) [e, e2] [] pos) (iZip K ta) := by
  subst h
  exact pi_zip hg hm ha hs hpl
def rNotInT : R2 := fun x y H Q => ∃ d ds, Dt H x d ∧ Dt H y (.list ds) ∧ SeqAt.shaped d = true ∧ SeqAt.shaped (.list ds) = true ∧ Q (.bl (!ds.any fun z => PyData.eqv z d)) H
def rInT : R2 := fun x y H Q => ∃ d ds, Dt H x d ∧ Dt H y (.list ds) ∧ SeqAt.shaped d = true ∧ SeqAt.shaped (.list ds) = true ∧ Q (.bl (ds.any fun z => PyData.eqv z d)) H
theorem op_notInT (hu : X.A.units + 65 < cLine) : OpR X (compareOp .NotIn) rNotInT := by
  intro pins s σ H x y v u Q I rx ry h
  obtain ⟨d, ds, hd, he, sd, se, q⟩ := h
  obtain ⟨as, r1, _⟩ := Dt.reads I d x v hd rx
  obtain ⟨bs, r2, _⟩ := Dt.reads I (.list ds) y u he ry
  exact SeqAt.notIn_list_reads r2 r1 (SeqAt.canLay_of_shaped se) (SeqAt.canLay_of_shaped sd) (PyProof.Rows.room_in_shaped sd hu) ⟨.bl _, H, I, rfl, q⟩
theorem op_inT (hu : X.A.units + 65 < cLine) : OpR X (compareOp .In) rInT := by
  intro pins s σ H x y v u Q I rx ry h
  obtain ⟨d, ds, hd, he, sd, se, q⟩ := h
  obtain ⟨as, r1, _⟩ := Dt.reads I d x v hd rx
  obtain ⟨bs, r2, _⟩ := Dt.reads I (.list ds) y u he ry
  exact SeqAt.in_list_reads r2 r1 (SeqAt.canLay_of_shaped se) (SeqAt.canLay_of_shaped sd) (PyProof.Rows.room_in_shaped sd hu) ⟨.bl _, H, I, rfl, q⟩
theorem units1 {k : Nat} {A : Around} (r : Room k A) : A.units + 65 < cLine := by have := r.un; omega
end
end Hw

set_option Elab.async false
set_option linter.all false
set_option maxRecDepth 100000
set_option maxHeartbeats 4000000
/-! operators, built-ins, one's own objects, calls over pure states -/
namespace Hw
open PySem PySem.Spec PyProof.Rows L2
section
variable {g : GS} {te ta tb td ty : TE} {s s1 s2 : Sl} {K : Sl → GS → Prop} {KF : PySem.W.Frag} {d e : PyData} {ds es : List PyData} {i j : Int} {z w : Str} {b c : Bool}
theorem EX.i0 {f : Int → Int → Int} (h : EX ta g (.dat (.int i))) (k : EX tb g (.dat (.int j))) : EX (tOp (rI0 fun i j => .int (f i j)) ta tb) g (.dat (.int (f i j))) := h.op k fun H0 σ H x y Q _ a b q => ⟨i, j, hold_int a, hold_int b, q _ H (Same.refl _) (.int _)⟩
theorem EX.iC {C : Int → Int → Prop} {f : Int → Int → Int} (h : EX ta g (.dat (.int i))) (k : EX tb g (.dat (.int j))) (hc : C i j) : EX (tOp (rI C fun i j => .int (f i j)) ta tb) g (.dat (.int (f i j))) := h.op k fun H0 σ H x y Q _ a b q => ⟨i, j, hold_int a, hold_int b, hc, q _ H (Same.refl _) (.int _)⟩
theorem EX.b0 {f : Int → Int → Bool} (h : EX ta g (.dat (.int i))) (k : EX tb g (.dat (.int j))) : EX (tOp (rI0 fun i j => .bl (f i j)) ta tb) g (.dat (.bool (f i j))) := h.op k fun H0 σ H x y Q _ a b q => ⟨i, j, hold_int a, hold_int b, q _ H (Same.refl _) (.bl _)⟩
theorem c_b0 {f : Int → Int → Bool} : RC2 (rI0 fun i j => .bl (f i j)) g (.dat (.int i)) (.dat (.int j)) (.dat (.bool (f i j))) := fun H0 σ H x y Q _ a b q => ⟨i, j, hold_int a, hold_int b, q _ H (Same.refl _) (.bl _)⟩
theorem c_i0 {f : Int → Int → Int} : RC2 (rI0 fun i j => .int (f i j)) g (.dat (.int i)) (.dat (.int j)) (.dat (.int (f i j))) := fun H0 σ H x y Q _ a b q => ⟨i, j, hold_int a, hold_int b, q _ H (Same.refl _) (.int _)⟩
theorem c_iC {C : Int → Int → Prop} {f : Int → Int → Int} (hc : C i j) : RC2 (rI C fun i j => .int (f i j)) g (.dat (.int i)) (.dat (.int j)) (.dat (.int (f i j))) := fun H0 σ H x y Q _ a b q => ⟨i, j, hold_int a, hold_int b, hc, q _ H (Same.refl _) (.int _)⟩
theorem c_ip {f : Int → Int → Int} : RC2 (ipI f) g (.dat (.int i)) (.dat (.int j)) (.dat (.int (f i j))) := fun H0 σ H x y Q _ a b q => ⟨i, j, hold_int a, hold_int b, q _ H (Same.refl _) (.int _)⟩
theorem EX.neg (h : EX ta g (.dat (.int i))) {f : Int → Int} : EX (tUn (rU fun i => .int (f i)) ta) g (.dat (.int (f i))) := h.un fun H0 σ H x Q _ a q => ⟨i, hold_int a, q _ H (Same.refl _) (.int _)⟩
theorem c_eqI : RC2 rEq g (.dat (.int i)) (.dat (.int j)) (.dat (.bool (decide (i = j)))) := fun H0 σ H x y Q _ a b q => by
  rw [hold_int a, hold_int b]
  refine ⟨rfl, ?_⟩
  rw [vi]; exact q _ H (Same.refl _) (.bl _)
theorem c_neI : RC2 rNe g (.dat (.int i)) (.dat (.int j)) (.dat (.bool (!decide (i = j)))) := fun H0 σ H x y Q _ a b q => by
  rw [hold_int a, hold_int b]
  refine ⟨rfl, ?_⟩
  rw [vi]; exact q _ H (Same.refl _) (.bl _)
theorem c_eqS : RC2 rEq g (.dat (.str z)) (.dat (.str w)) (.dat (.bool (decide (z = w)))) := fun H0 σ H x y Q _ a b q => by
  rw [hold_str a, hold_str b]
  refine ⟨rfl, ?_⟩
  rw [vs_eq]; exact q _ H (Same.refl _) (.bl _)
theorem c_neS : RC2 rNe g (.dat (.str z)) (.dat (.str w)) (.dat (.bool (!decide (z = w)))) := fun H0 σ H x y Q _ a b q => by
  rw [hold_str a, hold_str b]
  refine ⟨rfl, ?_⟩
  rw [vs_eq]; exact q _ H (Same.refl _) (.bl _)
theorem EX.eqI (h : EX ta g (.dat (.int i))) (k : EX tb g (.dat (.int j))) : EX (tOp rEq ta tb) g (.dat (.bool (decide (i = j)))) := h.op k c_eqI
theorem EX.neI (h : EX ta g (.dat (.int i))) (k : EX tb g (.dat (.int j))) : EX (tOp rNe ta tb) g (.dat (.bool (!decide (i = j)))) := h.op k c_neI
theorem EX.eqS (h : EX ta g (.dat (.str z))) (k : EX tb g (.dat (.str w))) : EX (tOp rEq ta tb) g (.dat (.bool (decide (z = w)))) := h.op k c_eqS
theorem EX.neS (h : EX ta g (.dat (.str z))) (k : EX tb g (.dat (.str w))) : EX (tOp rNe ta tb) g (.dat (.bool (!decide (z = w)))) := h.op k c_neS
theorem Dt.on' {l : List Addr} {H : Hp} {x : V} (h : Dt (offs l H) x d) : Dt H x d := h.to offs_same
theorem EX.eqT (h : EX ta g (.dat d)) (k : EX tb g (.dat e)) (h1 : SeqAt.shaped d = true) (h2 : SeqAt.shaped e = true) : EX (tOp rEqT ta tb) g (.dat (.bool (PyData.eqv d e))) := h.op k fun H0 σ H x y Q _ a b q => ⟨d, e, Dt.on' a, Dt.on' b, h1, h2, q _ H (Same.refl _) (.bl _)⟩
theorem EX.neT (h : EX ta g (.dat d)) (k : EX tb g (.dat e)) (h1 : SeqAt.shaped d = true) (h2 : SeqAt.shaped e = true) : EX (tOp rNeT ta tb) g (.dat (.bool (!PyData.eqv d e))) := h.op k fun H0 σ H x y Q _ a b q => ⟨d, e, Dt.on' a, Dt.on' b, h1, h2, q _ H (Same.refl _) (.bl _)⟩
theorem EX.inT (h : EX ta g (.dat d)) (k : EX tb g (.dat (.list ds))) (h1 : SeqAt.shaped d = true) (h2 : SeqAt.shaped (.list ds) = true) : EX (tOp rInT ta tb) g (.dat (.bool (ds.any fun z => PyData.eqv z d))) := h.op k fun H0 σ H x y Q _ a b q => ⟨d, ds, Dt.on' a, Dt.on' b, h1, h2, q _ H (Same.refl _) (.bl _)⟩
theorem EX.notInT (h : EX ta g (.dat d)) (k : EX tb g (.dat (.list ds))) (h1 : SeqAt.shaped d = true) (h2 : SeqAt.shaped (.list ds) = true) : EX (tOp rNotInT ta tb) g (.dat (.bool (!ds.any fun z => PyData.eqv z d))) := h.op k fun H0 σ H x y Q _ a b q => ⟨d, ds, Dt.on' a, Dt.on' b, h1, h2, q _ H (Same.refl _) (.bl _)⟩
def isNon : PyData → Bool | .none => true | _ => false
theorem dt_non {l : List Addr} {H : Hp} {x : V} (h : Dt (offs l H) x d) : decide (x = .non) = isNon d := by cases h <;> rfl
theorem EX.isN (h : EX ta g (.dat d)) (k : EX tb g (.dat .none)) : EX (tOp (fun x y H Q => y = .non ∧ Q (.bl (decide (x = .non))) H) ta tb) g (.dat (.bool (isNon d))) := h.op k fun H0 σ H x y Q _ a b q => ⟨hold_non b, by rw [dt_non a]; exact q _ H (Same.refl _) (.bl _)⟩
theorem EX.notN (h : EX ta g (.dat d)) (k : EX tb g (.dat .none)) : EX (tOp (fun x y H Q => y = .non ∧ Q (.bl (!decide (x = .non))) H) ta tb) g (.dat (.bool (!isNon d))) := h.op k fun H0 σ H x y Q _ a b q => ⟨hold_non b, by rw [dt_non a]; exact q _ H (Same.refl _) (.bl _)⟩
theorem EX.isBl (h : EX ta g (.dat (.bool b))) (k : EX tb g (.dat (.bool c))) : EX (tOp (fun x y H Q => ∃ a b, x = .bl a ∧ y = .bl b ∧ Q (.bl (decide (a = b))) H) ta tb) g (.dat (.bool (decide (b = c)))) := h.op k fun H0 σ H x y Q _ a b' q => ⟨b, c, hold_bool a, hold_bool b', q _ H (Same.refl _) (.bl _)⟩
theorem EX.inS {c : Nat} (h : EX ta g (.dat (.str ⟨#[c]⟩))) (k : EX tb g (.dat (.str z))) : EX (tOp (fun x y H Q => ∃ (c : Nat) (z : Str), x = .str ⟨#[c]⟩ ∧ y = .str z ∧ Q (.bl (decide (c ∈ z.cps.toList))) H) ta tb) g (.dat (.bool (decide (c ∈ z.cps.toList)))) := h.op k fun H0 σ H x y Q _ a b q => ⟨c, z, hold_str a, hold_str b, q _ H (Same.refl _) (.bl _)⟩
theorem EX.addS (h : EX ta g (.dat (.str z))) (k : EX tb g (.dat (.str w))) (hl : z.length + w.length ≤ sizeLine) : EX (tOp (fun x y H Q => ∃ i j, x = .str i ∧ y = .str j ∧ i.length + j.length ≤ sizeLine ∧ Q (.str (i ++ j)) H) ta tb) g (.dat (.str (z ++ w))) := h.op k fun H0 σ H x y Q _ a b q => ⟨z, w, hold_str a, hold_str b, hl, q _ H (Same.refl _) (.str _)⟩
/-! ### calls of built-ins -/
theorem EX.isi {T : String} (h : EX te g (.dat d)) (k : kitB (tyN d) T = some b) : EX (tCB rIsD (tCons te (tCons (tC (.ty T)) tNil))) g (.dat (.bool b)) :=
  EX.cb (EAX.cons h (EAX.cons (EX.con _) EAX.nil)) fun H0 σ H xs Q _ a q => by
    cases a with
    | cons a1 a2 =>
      cases a2 with
      | cons a2 a3 =>
        cases a3
        cases (show _ = _ from a2)
        exact ⟨_, d, T, b, rfl, Dt.on' a1, k, q _ H (Same.refl _) (.bl _)⟩
theorem EX.len {xs : List PyData} (h : EX te g (.dat d)) (k : d = .list xs ∨ d = .tuple xs) : EX (tCB (rLenK KF) (tCons te tNil)) g (.dat (.int xs.length)) :=
  EX.cb (EAX.cons h EAX.nil) fun H0 σ H ys Q _ a q => by
    cases a with
    | cons a1 a2 =>
      cases a2
      rcases k with rfl | rfl
      · cases a1 with
        | lst h1 h2 => exact ⟨_, _, rfl, .inl (.inl (.inl (offs_at h1).2)), by rw [h2.len]; exact q _ H (Same.refl _) (.int _)⟩
      · cases a1 with
        | tup h1 h2 => exact ⟨_, _, rfl, .inr (.inl (.inl (offs_at h1).2)), by rw [h2.len]; exact q _ H (Same.refl _) (.int _)⟩
theorem EX.lenL (h : EX te g (.dat (.list ds))) : EX (tCB (rLenK KF) (tCons te tNil)) g (.dat (.int ds.length)) := h.len (.inl rfl)
theorem EX.lenT (h : EX te g (.dat (.tuple ds))) : EX (tCB (rLenK KF) (tCons te tNil)) g (.dat (.int ds.length)) := h.len (.inr rfl)
theorem EX.lenS (h : EX te g (.dat (.str z))) (hz : z.length ≤ sizeLine) : EX (tCB (fun xs H Q => ∃ z, xs = [.str z] ∧ z.length ≤ sizeLine ∧ Q (.int z.length) H) (tCons te tNil)) g (.dat (.int z.length)) :=
  EX.cb (EAX.cons h EAX.nil) fun H0 σ H ys Q _ a q => by
    cases a with
    | cons a1 a2 => cases a2; exact ⟨z, by rw [hold_str a1], hz, q _ H (Same.refl _) (.int _)⟩
theorem EX.repr (h : EX te g (.dat d)) (n : Shows d) : EX (tCB rReprT (tCons te tNil)) g (.dat (.str d.shown)) :=
  EX.cb (EAX.cons h EAX.nil) fun H0 σ H ys Q _ a q => by
    cases a with
    | cons a1 a2 => cases a2; exact ⟨_, d, rfl, Dt.on' a1, n, q _ H (Same.refl _) (.str _)⟩
theorem EX.intI (h : EX te g (.dat (.int i))) : EX (tCB (fun xs H Q => (∃ i, xs = [.int i] ∧ Q (.int i) H) ∨ ∃ k, xs = [.bl k] ∧ Q (.int (if k then 1 else 0)) H) (tCons te tNil)) g (.dat (.int i)) :=
  EX.cb (EAX.cons h EAX.nil) fun H0 σ H ys Q _ a q => by
    cases a with
    | cons a1 a2 => cases a2; exact .inl ⟨i, by rw [hold_int a1], q _ H (Same.refl _) (.int _)⟩
theorem EX.intB (h : EX te g (.dat (.bool b))) : EX (tCB (fun xs H Q => (∃ i, xs = [.int i] ∧ Q (.int i) H) ∨ ∃ k, xs = [.bl k] ∧ Q (.int (if k then 1 else 0)) H) (tCons te tNil)) g (.dat (.int (if b then 1 else 0))) :=
  EX.cb (EAX.cons h EAX.nil) fun H0 σ H ys Q _ a q => by
    cases a with
    | cons a1 a2 => cases a2; exact .inr ⟨b, by rw [hold_bool a1], q _ H (Same.refl _) (.int _)⟩
theorem ints_of {l : List Addr} {H : Hp} : ∀ (ns : List Int) {vs : List V}, DtAll (offs l H) vs (ns.map PyData.int) → vs = ns.map V.int
  | [], _, h => by cases h; rfl
  | n :: r, _, h => by
    cases h with
    | cons h1 h2 => cases h1; rw [ints_of r h2]; rfl
theorem bools_of {l : List Addr} {H : Hp} : ∀ (ns : List Bool) {vs : List V}, DtAll (offs l H) vs (ns.map PyData.bool) → vs = ns.map V.bl
  | [], _, h => by cases h; rfl
  | n :: r, _, h => by
    cases h with
    | cons h1 h2 => cases h1; rw [bools_of r h2]; rfl
theorem strs_of {l : List Addr} {H : Hp} : ∀ (ns : List Str) {vs : List V}, DtAll (offs l H) vs (ns.map PyData.str) → vs = ns.map V.str
  | [], _, h => by cases h; rfl
  | n :: r, _, h => by
    cases h with
    | cons h1 h2 => cases h1; rw [strs_of r h2]; rfl
theorem EX.sum {ns : List Int} (h : EX te g (.dat (.list (ns.map .int)))) : EX (tCB (rSum KF) (tCons te tNil)) g (.dat (.int ns.sum)) :=
  EX.cb (EAX.cons h EAX.nil) fun H0 σ H ys Q _ a q => by
    cases a with
    | cons a1 a2 =>
      cases a2
      cases a1 with
      | lst h1 h2 =>
        rw [ints_of ns h2] at h1
        exact ⟨_, ns, rfl, .inl (.inl (offs_at h1).2), q _ H (Same.refl _) (.int _)⟩
theorem EX.all {bs : List Bool} (h : EX te g (.dat (.list (bs.map .bool)))) : EX (tCB (rAll KF) (tCons te tNil)) g (.dat (.bool (bs.all id))) :=
  EX.cb (EAX.cons h EAX.nil) fun H0 σ H ys Q _ a q => by
    cases a with
    | cons a1 a2 =>
      cases a2
      cases a1 with
      | lst h1 h2 =>
        rw [bools_of bs h2] at h1
        exact ⟨_, bs, rfl, .inl (.inl (offs_at h1).2), q _ H (Same.refl _) (.bl _)⟩
theorem EX.any {bs : List Bool} (h : EX te g (.dat (.list (bs.map .bool)))) : EX (tCB (rAny KF) (tCons te tNil)) g (.dat (.bool (bs.any id))) :=
  EX.cb (EAX.cons h EAX.nil) fun H0 σ H ys Q _ a q => by
    cases a with
    | cons a1 a2 =>
      cases a2
      cases a1 with
      | lst h1 h2 =>
        rw [bools_of bs h2] at h1
        exact ⟨_, bs, rfl, .inl (.inl (offs_at h1).2), q _ H (Same.refl _) (.bl _)⟩
theorem EX.listK {xs : List PyData} (h : EX te g (.dat d)) (k : d = .list xs ∨ d = .tuple xs) : EX (tCB (rListK KF) (tCons te tNil)) g (.dat (.list xs)) :=
  EX.cb (EAX.cons h EAX.nil) fun H0 σ H ys Q sat a q => by
    cases a with
    | cons a1 a2 =>
      cases a2
      have fin : ∀ {vs : List V} {l : Addr}, DtAll (offs g.l H) vs xs → H l = none → Q (.ref l) (upd H l (.lst vs)) := fun {vs l} h2 hl =>
        have sm := same_new' (o := .lst vs) hl
        q _ _ sm (.lst (offs_of (sat.newNot hl) upd_same) (h2.to (offs_mono sm)))
      rcases k with rfl | rfl
      · cases a1 with
        | lst h1 h2 => exact ⟨_, _, rfl, .inl (.inl (.inl (offs_at h1).2)), fun l hl => fin h2 hl⟩
      · cases a1 with
        | tup h1 h2 => exact ⟨_, _, rfl, .inr (.inl (.inl (offs_at h1).2)), fun l hl => fin h2 hl⟩
theorem EX.tupL (h : EX te g (.dat (.list ds))) : EX (tCB (rTupK KF) (tCons te tNil)) g (.dat (.tuple ds)) :=
  EX.cb (EAX.cons h EAX.nil) fun H0 σ H ys Q sat a q => by
    cases a with
    | cons a1 a2 =>
      cases a2
      cases a1 with
      | lst h1 h2 => exact ⟨_, _, rfl, .inl ⟨.inl (.inl (offs_at h1).2), fun l hl =>
          have sm := same_new' (o := .tup _) hl
          q _ _ sm (.tup (offs_of (sat.newNot hl) upd_same) (h2.to (offs_mono sm)))⟩⟩
/-! ### items, slices -/
theorem atI_data {H : Hp} {vs : List V} (h : DtAll H vs ds) (k : atI ds i = some d) : ∃ v, atI vs i = some v ∧ Dt H v d := by
  unfold atI at k ⊢
  rw [h.len]
  cases e : ixN ds.length i with
  | none => rw [e] at k; cases k
  | some j =>
    rw [e] at k
    obtain ⟨v, h1, h2⟩ := (HoldA.of (l := []) (H := H) (h.to fun b o h => offs_of (by simp) h)).get (show (ds.map Sl.dat)[j]? = some (.dat d) by rw [List.getElem?_map]; exact (congrArg _ k))
    exact ⟨v, h1, Dt.on' h2⟩
theorem EX.ixL (h : EX ta g (.dat (.list ds))) (k : EX tb g (.dat (.int i))) (e : atI ds i = some d) : EX (tOp (rIxL KF) ta tb) g (.dat d) := h.op k fun H0 σ H x y Q _ a b q => by
  cases a with
  | lst h1 h2 =>
    obtain ⟨v, e1, e2⟩ := atI_data h2 e
    exact ⟨_, _, i, v, rfl, hold_int b, .inl (.inl (offs_at h1).2), e1, q v H (Same.refl _) e2⟩
theorem EX.ixT (h : EX ta g (.dat (.tuple ds))) (k : EX tb g (.dat (.int i))) (e : atI ds i = some d) : EX (tOp (rIxT KF) ta tb) g (.dat d) := h.op k fun H0 σ H x y Q _ a b q => by
  cases a with
  | tup h1 h2 =>
    obtain ⟨v, e1, e2⟩ := atI_data h2 e
    exact ⟨_, _, i, v, rfl, hold_int b, .inl (.inl (offs_at h1).2), e1, q v H (Same.refl _) e2⟩
/-- a list or a tuple -/
theorem EX.ixQ {xs : List PyData} (h : EX ta g (.dat e)) (k : EX tb g (.dat (.int i))) (he : e = .list xs ∨ e = .tuple xs) (h2 : atI xs i = some d) : EX (tOp (rIx KF) ta tb) g (.dat d) := h.op k fun H0 σ H x y Q _ a b q => by
  rcases he with rfl | rfl
  · cases a with
    | lst h1 h3 =>
      obtain ⟨v, e1, e2⟩ := atI_data h3 h2
      exact .inl ⟨_, _, i, v, rfl, hold_int b, .inl (.inl (offs_at h1).2), e1, q v H (Same.refl _) e2⟩
  · cases a with
    | tup h1 h3 =>
      obtain ⟨v, e1, e2⟩ := atI_data h3 h2
      exact .inr (.inl ⟨_, _, i, v, rfl, hold_int b, .inl (.inl (offs_at h1).2), e1, q v H (Same.refl _) e2⟩)
theorem EX.ixS {n : Nat} (h : EX ta g (.dat (.str z))) (k : EX tb g (.dat (.int i))) (hz : z.length ≤ sizeLine) (e : atI z.cps.toList i = some n) : EX (tOp rIxS ta tb) g (.dat (.str ⟨#[n]⟩)) := h.op k fun H0 σ H x y Q _ a b q =>
  ⟨z, i, n, hold_str a, hold_int b, hz, e, q _ H (Same.refl _) (.str _)⟩
theorem EX.ixQS {n : Nat} (h : EX ta g (.dat (.str z))) (k : EX tb g (.dat (.int i))) (hz : z.length ≤ sizeLine) (e : atI z.cps.toList i = some n) : EX (tOp (rIx KF) ta tb) g (.dat (.str ⟨#[n]⟩)) := h.op k fun H0 σ H x y Q _ a b q =>
  .inr (.inr ⟨z, i, n, hold_str a, hold_int b, hz, e, q _ H (Same.refl _) (.str _)⟩)
theorem EO.no : EO tNoPart g none := fun H0 σ H Q sat q => q H sat (Same.refl _)
theorem EO.some (h : EX te g (.dat (.int i))) : EO (tPart te) g (some i) := fun H0 σ H Q sat q => h.go sat fun x H' sat' sm hx => ⟨i, hold_int hx, q H' sat' sm⟩
theorem EX.sl {r : V → Option Int → Option Int → Hp → VK → Prop} {tl th : TO} {lo hi : Option Int} (h : EX te g s1) (h1 : EO tl g lo) (h2 : EO th g hi) (rc : RCs r g s1 lo hi s) : EX (tSl r te tl th) g s := EX.of fun H0 σ H Q sat q =>
  h.go sat fun x H1 sat1 sm1 hx => h1 H0 σ H1 _ sat1 fun H2 sat2 sm2 => h2 H0 σ H2 _ sat2 fun H3 sat3 sm3 => rc H0 σ H3 x Q sat3 ((hx.to sm2).to sm3) fun z H4 e hz => q z H4 (sat3.mono e) (sm1.trans (sm2.trans (sm3.trans (offs_mono e)))) hz
def cutD (xs : List PyData) (lo hi : Option Int) : List PyData := (xs.drop (HT.sIx xs.length 0 lo)).take (HT.sIx xs.length xs.length hi - HT.sIx xs.length 0 lo)
theorem cut_ok {H : Hp} {vs : List V} (h : DtAll H vs ds) (lo hi : Option Int) : DtAll H (cutV vs lo hi) (cutD ds lo hi) := by
  unfold cutV cutD
  rw [h.len]
  exact DtAll.take _ (DtAll.drop _ h)
theorem EX.slL {tl th : TO} {lo hi : Option Int} (h : EX te g (.dat (.list ds))) (h1 : EO tl g lo) (h2 : EO th g hi) : EX (tSl (rSlL KF) te tl th) g (.dat (.list (cutD ds lo hi))) := h.sl h1 h2 fun H0 σ H x Q sat a q => by
  cases a with
  | lst h1 h2 => exact ⟨_, _, rfl, .inl (.inl (offs_at h1).2), fun p hp =>
      have sm := same_new' (o := .lst _) hp
      q _ _ sm (.lst (offs_of (sat.newNot hp) upd_same) ((cut_ok h2 lo hi).to (offs_mono sm)))⟩
theorem cut_whole {H : Hp} {vs : List V} (h : DtAll H vs ds) {lo hi : Option Int} (e : HT.sIx vs.length 0 lo = 0 ∧ HT.sIx vs.length vs.length hi = vs.length) : cutD ds lo hi = ds := by
  unfold cutD
  rw [← h.len, e.1, e.2, List.drop_zero, Nat.sub_zero, h.len, List.take_length]
theorem EX.slT {tl th : TO} {lo hi : Option Int} (h : EX te g (.dat (.tuple ds))) (h1 : EO tl g lo) (h2 : EO th g hi) : EX (tSl (rSlA KF) te tl th) g (.dat (.tuple (cutD ds lo hi))) := h.sl h1 h2 fun H0 σ H x Q sat a q => by
  cases a with
  | tup h1 h2 => exact ⟨_, _, rfl, .inl (.inl (offs_at h1).2), fun e => q _ H (Same.refl _) (by rw [cut_whole h2 e]; exact .tup h1 h2), fun _ p hp =>
      have sm := same_new' (o := .tup _) hp
      q _ _ sm (.tup (offs_of (sat.newNot hp) upd_same) ((cut_ok h2 lo hi).to (offs_mono sm)))⟩
theorem EX.slS {tl th : TO} {lo hi : Option Int} (h : EX te g (.dat (.str z))) (h1 : EO tl g lo) (h2 : EO th g hi) (hz : z.length ≤ sizeLine) : EX (tSl rSlS te tl th) g (.dat (.str (cutS z lo hi))) := h.sl h1 h2 fun H0 σ H x Q sat a q => ⟨z, hold_str a, hz, q _ H (Same.refl _) (.str _)⟩
theorem EX.cat (h : EX ta g (.dat (.list ds))) (k : EX tb g (.dat (.list es))) (hz : ds.length + es.length ≤ 1000000) : EX (tOp rCat ta tb) g (.dat (.list (ds ++ es))) := h.op k fun H0 σ H x y Q sat a b q => by
  cases a with
  | lst h1 h2 =>
    cases b with
    | lst k1 k2 => exact ⟨_, _, _, _, rfl, rfl, (offs_at h1).2, (offs_at k1).2, by rw [h2.len, k2.len, sizeLine_eq]; omega, fun p hp =>
        have sm := same_new' (o := .lst _) hp
        q _ _ sm (.lst (offs_of (sat.newNot hp) upd_same) ((h2.app k2).to (offs_mono sm)))⟩
theorem EX.catT (h : EX ta g (.dat (.tuple ds))) (k : EX tb g (.dat (.tuple es))) (hz : ds.length + es.length ≤ 1000000) : EX (tOp (rCatA KF) ta tb) g (.dat (.tuple (ds ++ es))) := h.op k fun H0 σ H x y Q sat a b q => by
  cases a with
  | tup h1 h2 =>
    cases b with
    | tup k1 k2 =>
      have e1 := h2.len
      have e2 := k2.len
      refine ⟨_, _, _, _, rfl, rfl, .inl (.inl (offs_at h1).2), .inl (.inl (offs_at k1).2), by rw [h2.len, k2.len, sizeLine_eq]; omega, fun z => ?_, fun _ z => ?_, fun _ _ p hp => ?_⟩
      · subst z
        cases ds with
        | nil => exact q _ H (Same.refl _) (.tup k1 k2)
        | cons => cases e1
      · subst z
        cases es with
        | nil => exact q _ H (Same.refl _) (by rw [List.append_nil]; exact .tup h1 h2)
        | cons => cases e2
      · exact q _ _ (same_new' hp) (.tup (offs_of (sat.newNot hp) upd_same) ((h2.app k2).to (offs_mono (same_new' hp))))
/-- a dict of texts and ints -/
def dictD (kvs : List (Str × Int)) : PyData := .dict (kvs.map fun p => (.str p.1, .int p.2))
theorem dictD_inj {a b : List (Str × Int)} (h : (a.map fun p => (PyData.str p.1, PyData.int p.2)) = b.map fun p => (PyData.str p.1, PyData.int p.2)) : a = b := by
  induction a generalizing b with
  | nil => cases b with
    | nil => rfl
    | cons => cases h
  | cons p r ih =>
    cases b with
    | nil => cases h
    | cons q t =>
      obtain ⟨p1, p2⟩ := p
      obtain ⟨q1, q2⟩ := q
      injection h with h1 h2
      injection h1 with h3 h4
      injection h3 with h3
      injection h4 with h4
      rw [show p1 = q1 from h3, show p2 = q2 from h4, ih h2]
theorem valV_strs (z : Str) : ∀ kvs : List (Str × Int), valV (kvs.map fun p => ((.inr p.1 : Key), V.int p.2)) (.inr z) = (kvs.lookup z).map V.int
  | [] => rfl
  | p :: r => by
    by_cases h : p.1 = z
    · rw [List.map_cons, valV_pos (by rw [h]), List.lookup_cons, show (z == p.1) = true by rw [h]; exact beq_self_eq_true z]; rfl
    · rw [List.map_cons, valV_neg (by intro e; injection e with e; exact h e), valV_strs z r, List.lookup_cons, show (z == p.1) = false from beq_eq_false_iff_ne.mpr fun e => h e.symm]
theorem EX.dget {kvs : List (Str × Int)} (h : EX td g (.dat (dictD kvs))) (k : EX ty g (.dat (.str z))) (e : kvs.lookup z = some i) : EX (tDGet td ty) g (.dat (.int i)) := EX.of fun H0 σ H Q sat q =>
  h.go sat fun x H1 sat1 sm1 hx => k.go sat1 fun y H2 sat2 sm2 hy => by
    have hx2 : Dt (offs g.l H2) x (dictD kvs) := Dt.to hx sm2
    unfold dictD at hx2
    generalize hk : (kvs.map fun p => (PyData.str p.1, PyData.int p.2)) = kd at hx2
    cases hx2 with
    | dic kvs2 h1 =>
      cases dictD_inj hk
      refine ⟨_, .int i, rfl, ?_, q _ H2 sat2 (sm1.trans sm2) (.int _)⟩
      have := DGet.k (k := .inr z) (offs_at h1).2
      rw [valV_strs, e] at this
      rw [hold_str hy]
      exact this
end
end Hw

set_option Elab.async false
set_option linter.all false
set_option maxRecDepth 100000
set_option maxHeartbeats 4000000
/-! one's own objects, the generator, calls, bodies over pure states -/
namespace Hw
open PySem PySem.Spec PyProof.Rows L2
/-! ### own objects, by their place in the state -/
def GS.ownAt (g : GS) (i : Nat) (a : Addr) (o : OD) : GS := { g with ow := g.ow.set i (a, o) }
section
variable {g : GS} {te ta tb td ty to ti : TE} {s s1 s2 : Sl} {K : Sl → GS → Prop} {KF : PySem.W.Frag} {d e : PyData} {ds es : List PyData} {i j : Int} {z w : Str} {b c : Bool} {n : Nat} {a : Addr} {o o' : OD} {O : Out} {t : TS}
theorem map_set_fst {α β : Type} : ∀ (l : List (α × β)) (n : Nat) (a : α) (o o' : β), l[n]? = some (a, o) → (l.set n (a, o')).map (·.1) = l.map (·.1)
  | [], n, a, o, o', h => by simp at h
  | p :: r, 0, a, o, o', h => by cases h; rfl
  | p :: r, n + 1, a, o, o', h => by
    show p.1 :: (r.set n (a, o')).map (·.1) = p.1 :: r.map (·.1)
    rw [map_set_fst r n a o o' h]
theorem GS.ownAt_l (h : g.ow[n]? = some (a, o)) : (g.ownAt n a o').l = g.l := by
  unfold GS.ownAt GS.l
  rw [map_set_fst g.ow n a o o' h]
theorem own_in (h : g.ow[n]? = some (a, o)) : a ∈ g.l := List.mem_append_left _ (List.mem_map.mpr ⟨(a, o), List.mem_of_getElem? h, rfl⟩)
theorem nodup_at {α β : Type} : ∀ (l : List (α × β)), (l.map (·.1)).Nodup → ∀ (n m : Nat) (a : α) (o o' : β), l[n]? = some (a, o) → l[m]? = some (a, o') → n = m := fun l hn n m a o o' h1 h2 => by
  have e1 : (l.map (·.1))[n]? = some a := by rw [List.getElem?_map, h1]; rfl
  have e2 : (l.map (·.1))[m]? = some a := by rw [List.getElem?_map, h2]; rfl
  exact (List.getElem?_inj (by rw [List.length_map]; exact (List.getElem?_eq_some_iff.mp h1).1) hn).mp (e1.trans e2.symm)
theorem Sat.updO {H0 : Hp} {σ : L2.St} {H : Hp} {u : HO} (sat : Sat H0 g σ H) (h : g.ow[n]? = some (a, o)) (k : HoldO g.l (upd H a u) a o') : Sat H0 (g.ownAt n a o') σ (upd H a u) := by
  have el := GS.ownAt_l (o' := o') h
  have ia := own_in h
  have sm : Same (offs g.l H) (offs g.l (upd H a u)) := fun b v hb => by rw [offs_upd ia]; exact hb
  have nd := sat.nd
  have ndo : (g.ow.map (·.1)).Nodup := (List.nodup_append.mp nd).1
  have apart := (List.nodup_append.mp nd).2.2
  have ina : a ∈ g.ow.map (·.1) := List.mem_map.mpr ⟨(a, o), List.mem_of_getElem? h, rfl⟩
  refine ⟨sat.len, fun i s hs n => ?_, fun q hq => ?_, fun q hq => ?_, by rw [el]; exact nd, fun c hc => ?_, fun b v n hb => ?_, fun c hc => ?_⟩
  · obtain ⟨v, h1, h2⟩ := sat.sl i s hs n
    rw [el]
    exact ⟨v, h1, h2.to sm⟩
  · rw [el]
    obtain ⟨m, hm⟩ := List.getElem?_of_mem hq
    have hm2 : (g.ow.set n (a, o'))[m]? = some q := hm
    rw [List.getElem?_set] at hm2
    by_cases e : n = m
    · rw [if_pos e] at hm2
      split at hm2
      · cases hm2; exact k
      · cases hm2
    · rw [if_neg e] at hm2
      have ne : q.1 ≠ a := fun z => by
        obtain ⟨q1, q2⟩ := q
        cases z
        exact e (nodup_at _ ndo n m _ _ _ h hm2)
      have hm := hm2
      exact (sat.ow q (List.mem_of_getElem? hm)).to sm fun v hv => by rw [upd_ne ne]; exact hv
  · obtain ⟨x, y, w, hw, r⟩ := sat.gn q hq
    have ne : q.1 ≠ a := fun z => apart a ina q.1 (List.mem_append_left _ (List.mem_map.mpr ⟨q, hq, rfl⟩)) z.symm
    exact ⟨x, y, w, by rw [upd_ne ne]; exact hw, r⟩
  · rw [el] at hc
    by_cases e : c = a
    · rw [e]; exact ⟨u, upd_same⟩
    · obtain ⟨v, hv⟩ := sat.dom c hc
      exact ⟨v, by rw [upd_ne e]; exact hv⟩
  · rw [upd_ne]
    · exact sat.same b v n hb
    · intro e
      rcases sat.fresh a (List.mem_append_left _ ina) with r | r
      · exact n (e ▸ r)
      · rw [e, r] at hb; cases hb
  · have hc : c ∈ (g.ow.set n (a, o')).map (·.1) ++ g.gn.map (·.1) := hc
    rw [map_set_fst g.ow n a o o' h] at hc
    exact sat.fresh c hc
/-- xs.append(e), xs one's own -/
theorem EM.appendO {n0 : Nat} {ss0 : List Sl} (ht : EX to g (.con (.ref a))) (h0 : g.ow[n0]? = some (a, .lst ss0)) (h : EM te g fun s g1 => ∃ n ss, g1.ow[n]? = some (a, .lst ss) ∧ ss.length < 1000000 ∧ K (.dat .none) (g1.ownAt n a (.lst (ss ++ [s])))) : EM (tBM KF "list" rAppend to (tCons te tNil)) g K := fun H0 σ H Q sat q => by
  refine ht.go sat fun x H1 sat1 sm1 hx => ?_
  cases (show x = .ref a from hx)
  have run := h H0 σ H1 (fun y H2 => ∃ l xs y', V.ref a = .ref l ∧ [y] = [y'] ∧ H2 l = some (.lst xs) ∧ xs.length < sizeLine ∧ Q .non (upd H2 l (.lst (xs ++ [y'])))) sat1 fun y H2 s g2 k2 e2 sat2 sm2 h2 => ?_
  · obtain ⟨vs, h3, _⟩ := sat1.ow _ (List.mem_of_getElem? h0)
    exact ⟨.inl ⟨rfl, vs, .inl (.inl h3)⟩, run⟩
  · obtain ⟨n, ss, hn, hl, k⟩ := k2
    obtain ⟨vs, h3, h4⟩ := sat2.ow _ (List.mem_of_getElem? hn)
    have ia := own_in hn
    refine ⟨a, vs, y, rfl, rfl, h3, by rw [h4.len, sizeLine_eq]; omega, ?_⟩
    have sm3 : Same (offs g2.l H2) (offs g2.l (upd H2 a (.lst (vs ++ [y])))) := fun b v hb => by rw [offs_upd ia]; exact hb
    refine q .non _ _ _ k e2 (sat2.updO hn ⟨_, upd_same, (h4.to sm3).app (.cons (h2.to sm3) .nil)⟩) (sm1.trans (sm2.trans (by rw [GS.ownAt_l hn]; exact sm3))) .non
/-- the place of an own list read -/
theorem EX.ixO {n0 : Nat} {ss : List Sl} {j : Nat} (h : EX ta g (.con (.ref a))) (h0 : g.ow[n0]? = some (a, .lst ss)) (k : EX tb g (.dat (.int j))) (e : ss[j]? = some s) : EX (tOp (rIxL KF) ta tb) g s := h.op k fun H0 σ H x y Q sat hx hy q => by
  cases (show x = .ref a from hx)
  obtain ⟨vs, h3, h4⟩ := sat.ow _ (List.mem_of_getElem? h0)
  obtain ⟨v, h5, h6⟩ := h4.get e
  exact ⟨a, vs, j, v, rfl, hold_int hy, .inl (.inl h3), atI_nat h5, q v H (Same.refl _) h6⟩
theorem EX.ixOi {n0 : Nat} {ss : List Sl} (h : EX ta g (.con (.ref a))) (h0 : g.ow[n0]? = some (a, .lst ss)) (k : EX tb g (.dat (.int i))) (e : atI ss i = some s) : EX (tOp (rIxL KF) ta tb) g s := h.op k fun H0 σ H x y Q sat hx hy q => by
  cases (show x = .ref a from hx)
  obtain ⟨vs, h3, h4⟩ := sat.ow _ (List.mem_of_getElem? h0)
  unfold atI at e
  cases e1 : ixN ss.length i with
  | none => rw [e1] at e; cases e
  | some j =>
    rw [e1] at e
    obtain ⟨v, h5, h6⟩ := h4.get (show ss[j]? = some s from e)
    refine ⟨a, vs, i, v, rfl, hold_int hy, .inl (.inl h3), ?_, q v H (Same.refl _) h6⟩
    unfold atI
    rw [h4.len, e1]
    exact h5
theorem EX.lenO {n0 : Nat} {ss : List Sl} (h : EX te g (.con (.ref a))) (h0 : g.ow[n0]? = some (a, .lst ss)) : EX (tCB (rLenK KF) (tCons te tNil)) g (.dat (.int ss.length)) :=
  EX.cb (EAX.cons h EAX.nil) fun H0 σ H ys Q sat a1 q => by
    cases a1 with
    | cons a1 a2 =>
      cases a2
      cases (show _ = V.ref a from a1)
      obtain ⟨vs, h3, h4⟩ := sat.ow _ (List.mem_of_getElem? h0)
      exact ⟨a, vs, rfl, .inl (.inl (.inl h3)), by rw [h4.len]; exact q _ H (Same.refl _) (.int _)⟩
/-- xs[i] = v, xs one's own -/
theorem GX.setO {n0 : Nat} {ss : List Sl} {j : Nat} {N : GS → Prop} (h : EX to g (.con (.ref a))) (k : EX ti g (.dat (.int j))) (h0 : g.ow[n0]? = some (a, .lst ss)) (hj : j < ss.length) (hn : N (g.ownAt n0 a (.lst (ss.set j s)))) : GX (gSub to ti rSetL) s g N := fun H0 σ H x Q sat hx q => by
  refine h.go sat fun o H1 sat1 sm1 ho => k.go sat1 fun y H2 sat2 sm2 hy => ?_
  cases (show o = .ref a from ho)
  obtain ⟨vs, h3, h4⟩ := sat2.ow _ (List.mem_of_getElem? h0)
  have ia := own_in h0
  have sm3 : Same (offs g.l H2) (offs g.l (upd H2 a (.lst (vs.set j x)))) := fun b v hb => by rw [offs_upd ia]; exact hb
  refine ⟨a, vs, j, j, rfl, hold_int hy, h3, by rw [h4.len]; unfold ixN; simp; omega, ?_⟩
  have hx2 : Hold g.l (upd H2 a (.lst (vs.set j x))) x s := ((hx.to sm1).to sm2).to sm3
  refine q _ σ _ hn (sat2.updO h0 ⟨_, upd_same, (h4.to sm3).set j hx2⟩) (sm1.trans (sm2.trans (by rw [GS.ownAt_l h0]; exact sm3)))
theorem EM.ownDk (k : ∀ a, a ∉ g.l → K (.con (.ref a)) (g.addO a (.dk []))) : EM tDNewK g K := fun H0 σ H Q sat q => fun p hp => by
  have sm := same_new' (o := .dK []) hp
  exact q _ _ _ _ (k p (sat.newNot hp)) rfl (sat.addO hp sm ⟨[], upd_same, .nil⟩) (offs_cons_new sm hp) rfl
def putS (kvs : List (Key × Sl)) (k : Key) (v : Sl) : List (Key × Sl) :=
  if (kvs.any fun kv => decide (kv.1 = k)) = true then kvs.map (fun kv => if kv.1 = k then (kv.1, v) else kv) else kvs ++ [(k, v)]
theorem HoldK.len {l : List Addr} {H : Hp} {ws : List (Key × V)} {kvs : List (Key × Sl)} (h : HoldK l H ws kvs) : ws.length = kvs.length := by
  induction h with
  | nil => rfl
  | cons _ _ ih => simp [ih]
theorem HoldK.any {l : List Addr} {H : Hp} {ws : List (Key × V)} {kvs : List (Key × Sl)} (h : HoldK l H ws kvs) (k : Key) : (ws.any fun kv => decide (kv.1 = k)) = kvs.any fun kv => decide (kv.1 = k) := by
  induction h with
  | nil => rfl
  | cons _ _ ih => rw [List.any_cons, List.any_cons, ih]
theorem HoldK.map {l : List Addr} {H : Hp} {ws : List (Key × V)} {kvs : List (Key × Sl)} (h : HoldK l H ws kvs) {k : Key} {x : V} (hx : Hold l H x s) : HoldK l H (ws.map fun kv => if kv.1 = k then (kv.1, x) else kv) (kvs.map fun kv => if kv.1 = k then (kv.1, s) else kv) := by
  induction h with
  | nil => exact .nil
  | @cons k' y xs t ss h _ ih =>
    rw [List.map_cons, List.map_cons]
    by_cases e : k' = k
    · rw [if_pos e, if_pos e]; exact .cons hx ih
    · rw [if_neg e, if_neg e]; exact .cons h ih
theorem HoldK.app {l : List Addr} {H : Hp} {ws xs : List (Key × V)} {kvs lvs : List (Key × Sl)} (h : HoldK l H ws kvs) (k : HoldK l H xs lvs) : HoldK l H (ws ++ xs) (kvs ++ lvs) := by
  induction h with
  | nil => exact k
  | cons h _ ih => exact .cons h ih
theorem HoldK.put {l : List Addr} {H : Hp} {ws : List (Key × V)} {kvs : List (Key × Sl)} (h : HoldK l H ws kvs) {k : Key} {x : V} (hx : Hold l H x s) : HoldK l H (putK ws k x) (putS kvs k s) := by
  unfold putK putS
  rw [h.any k]
  split
  · exact h.map hx
  · exact h.app (.cons hx .nil)
theorem HoldK.get {l : List Addr} {H : Hp} {ws : List (Key × V)} {kvs : List (Key × Sl)} (h : HoldK l H ws kvs) {k : Key} (e : (kvs.find? fun kv => decide (kv.1 = k)).map (·.2) = some s) : ∃ x, valV ws k = some x ∧ Hold l H x s := by
  induction h with
  | nil => cases e
  | @cons k' y xs t ss h _ ih =>
    by_cases ek : k' = k
    · rw [List.find?_cons, show decide (k' = k) = true from decide_eq_true ek] at e
      cases e
      exact ⟨y, valV_pos ek, h⟩
    · rw [List.find?_cons, show decide (k' = k) = false from decide_eq_false ek] at e
      obtain ⟨x, h1, h2⟩ := ih e
      exact ⟨x, (valV_neg (p := (k', y)) ek).trans h1, h2⟩
theorem HoldK.miss {l : List Addr} {H : Hp} {ws : List (Key × V)} {kvs : List (Key × Sl)} (h : HoldK l H ws kvs) {k : Key} (e : (kvs.any fun kv => decide (kv.1 = k)) = false) : valV ws k = none := by
  have := h.any k
  rw [e, valV_any] at this
  cases z : valV ws k with
  | none => rfl
  | some x => rw [z] at this; cases this
def keyS : Key → Sl
  | .inl i => .dat (.int i)
  | .inr z => .dat (.str z)
theorem hold_key {l : List Addr} {H : Hp} {x : V} {k : Key} (h : Hold l H x (keyS k)) : x = kV k := by
  cases k with
  | inl i => exact hold_int h
  | inr z => exact hold_str h
/-- d[k] = v, d one's own -/
theorem SX.dputO {n0 : Nat} {kvs : List (Key × Sl)} {k : Key} {tv : TE} (hv : EM tv g fun s g1 => EX td g1 (.con (.ref a)) ∧ EX ty g1 (keyS k) ∧ ∃ n0 kvs, g1.ow[n0]? = some (a, .dk kvs) ∧ kvs.length < 1000000 ∧ O.nx (g1.ownAt n0 a (.dk (putS kvs k s)))) : SX (sDPut td ty tv) g O := fun H0 σ H D sat r => by
  refine hv H0 σ H _ sat fun v H1 s g1 k1 e1 sat1 sm1 h1 => ?_
  obtain ⟨hd, hy, n0, kvs, h0, hl, hn⟩ := k1
  refine hd.go sat1 fun x H2 sat2 sm2 hx => hy.go sat2 fun y H3 sat3 sm3 hy => ?_
  cases (show x = .ref a from hx)
  obtain ⟨ws, h3, h4⟩ := sat3.ow _ (List.mem_of_getElem? h0)
  have ia := own_in h0
  refine ⟨a, _, rfl, by rw [hold_key hy]; exact DPut.k h3 (by rw [h4.len, sizeLine_eq]; omega), ?_⟩
  have sm4 : Same (offs g1.l H3) (offs g1.l (upd H3 a (.dK (putK ws k v)))) := fun b u hb => by rw [offs_upd ia]; exact hb
  refine r.nx _ σ _ hn (sat3.updO h0 ⟨_, upd_same, (h4.to sm4).put (((h1.to sm2).to sm3).to sm4)⟩) (sm1.trans (sm2.trans (sm3.trans (by rw [GS.ownAt_l h0]; exact sm4))))
theorem EX.dgetO {n0 : Nat} {kvs : List (Key × Sl)} {k : Key} (h : EX td g (.con (.ref a))) (h0 : g.ow[n0]? = some (a, .dk kvs)) (hy : EX ty g (keyS k)) (e : (kvs.find? fun kv => decide (kv.1 = k)).map (·.2) = some s) : EX (tDGet td ty) g s := EX.of fun H0 σ H Q sat q =>
  h.go sat fun x H1 sat1 sm1 hx => hy.go sat1 fun y H2 sat2 sm2 hy => by
    cases (show x = .ref a from hx)
    obtain ⟨ws, h3, h4⟩ := sat2.ow _ (List.mem_of_getElem? h0)
    obtain ⟨v, h5, h6⟩ := h4.get e
    refine ⟨a, v, rfl, ?_, q v H2 sat2 (sm1.trans sm2) h6⟩
    have := DGet.k (k := k) h3
    rw [h5] at this
    rw [hold_key hy]
    exact this
theorem EX.dinO {n0 : Nat} {kvs : List (Key × Sl)} {k : Key} (hy : EX ty g (keyS k)) (h : EX td g (.con (.ref a))) (h0 : g.ow[n0]? = some (a, .dk kvs)) : EX (tDIn ty td) g (.dat (.bool (kvs.any fun kv => decide (kv.1 = k)))) := EX.of fun H0 σ H Q sat q =>
  hy.go sat fun y H1 sat1 sm1 hy => h.go sat1 fun x H2 sat2 sm2 hx => by
    cases (show x = .ref a from hx)
    obtain ⟨ws, h3, h4⟩ := sat2.ow _ (List.mem_of_getElem? h0)
    have := DGet.k (k := k) h3
    refine ⟨a, valV ws k, rfl, by rw [hold_key hy]; exact this, ?_⟩
    rw [← valV_any, h4.any k]
    exact q _ H2 sat2 (sm1.trans sm2) (.bl _)
theorem EX.dnotInO {n0 : Nat} {kvs : List (Key × Sl)} {k : Key} (hy : EX ty g (keyS k)) (h : EX td g (.con (.ref a))) (h0 : g.ow[n0]? = some (a, .dk kvs)) : EX (tDNotIn ty td) g (.dat (.bool (!kvs.any fun kv => decide (kv.1 = k)))) := EX.of fun H0 σ H Q sat q =>
  hy.go sat fun y H1 sat1 sm1 hy => h.go sat1 fun x H2 sat2 sm2 hx => by
    cases (show x = .ref a from hx)
    obtain ⟨ws, h3, h4⟩ := sat2.ow _ (List.mem_of_getElem? h0)
    have := DGet.k (k := k) h3
    refine ⟨a, valV ws k, rfl, by rw [hold_key hy]; exact this, ?_⟩
    rw [← valV_any, h4.any k]
    exact q _ H2 sat2 (sm1.trans sm2) (.bl _)
/-! an own list, dict is data from now on -/
def GS.freeze (g : GS) (n : Nat) (js : List Nat) (d : PyData) : GS := { g with ow := g.ow.eraseIdx n, sl := js.foldl (fun sl j => sl.set j (.dat d)) g.sl }
theorem Sat.freeze {H0 : Hp} {σ : L2.St} {H : Hp} {js : List Nat} (sat : Sat H0 g σ H) (h : g.ow[n]? = some (a, o)) (hj : ∀ j ∈ js, g.sl[j]? = some (.con (.ref a))) (hd : ∀ l, (∀ b ∈ l, b ∈ g.l) → Same (offs g.l H) (offs l H) → a ∉ l → Dt (offs l H) (.ref a) d) :
    Sat H0 (g.freeze n js d) σ H ∧ Same (offs g.l H) (offs (g.freeze n js d).l H) := by
  have nd := sat.nd
  have lmem : ∀ b, b ∈ (g.freeze n js d).l → b ∈ g.l := fun b hb => by
    have hb : b ∈ (g.ow.eraseIdx n).map (·.1) ++ (g.gn.map (·.1) ++ g.hd) := hb
    rcases List.mem_append.mp hb with z | z
    · obtain ⟨q, hq, e⟩ := List.mem_map.mp z
      exact List.mem_append_left _ (List.mem_map.mpr ⟨q, List.mem_of_mem_eraseIdx hq, e⟩)
    · exact List.mem_append_right _ z
  have sub : ((g.ow.eraseIdx n).map (·.1)).Sublist (g.ow.map (·.1)) := (List.eraseIdx_sublist ..).map _
  have nd2 : (g.freeze n js d).l.Nodup := nd.sublist (sub.append (List.Sublist.refl _))
  have ndo : (g.ow.map (·.1)).Nodup := (List.nodup_append.mp nd).1
  have na : a ∉ (g.freeze n js d).l := fun hb => by
    have hb : a ∈ (g.ow.eraseIdx n).map (·.1) ++ (g.gn.map (·.1) ++ g.hd) := hb
    have ina : a ∈ g.ow.map (·.1) := List.mem_map.mpr ⟨(a, o), List.mem_of_getElem? h, rfl⟩
    rcases List.mem_append.mp hb with z | z
    · obtain ⟨q, hq, e⟩ := List.mem_map.mp z
      obtain ⟨m, hm, e2⟩ := List.mem_eraseIdx_iff_getElem?.mp hq
      obtain ⟨q1, q2⟩ := q
      cases e
      exact hm (nodup_at _ ndo n m _ _ _ h e2).symm
    · exact (List.nodup_append.mp nd).2.2 a ina a z rfl
  have sm : Same (offs g.l H) (offs (g.freeze n js d).l H) := fun b u hb => by
    obtain ⟨nb, hb⟩ := offs_at hb
    exact offs_of (fun z => nb (lmem b z)) hb
  refine ⟨⟨?_, fun i s hs ns => ?_, fun q hq => (sat.ow q (List.mem_of_mem_eraseIdx hq)).to sm fun _ h => h, sat.gn, nd2, fun b hb => sat.dom b (lmem b hb), sat.same, fun b hb => sat.fresh b ?_⟩, sm⟩
  · show σ.length = (js.foldl (fun sl j => sl.set j (.dat d)) g.sl).length
    have : ∀ (js : List Nat) (sl : List Sl), (js.foldl (fun sl j => sl.set j (.dat d)) sl).length = sl.length := by
      intro js
      induction js with
      | nil => intro sl; rfl
      | cons j r ih => intro sl; rw [List.foldl_cons, ih, List.length_set]
    rw [this]; exact sat.len
  · have key : ∀ (js : List Nat) (sl : List Sl), (js.foldl (fun sl j => sl.set j (.dat d)) sl)[i]? = some s → (i ∈ js ∧ s = .dat d) ∨ sl[i]? = some s := by
      intro js
      induction js with
      | nil => intro sl h; exact .inr h
      | cons j r ih =>
        intro sl h
        rw [List.foldl_cons] at h
        rcases ih _ h with ⟨h1, h2⟩ | h1
        · exact .inl ⟨List.mem_cons_of_mem _ h1, h2⟩
        · rw [List.getElem?_set] at h1
          by_cases e : j = i
          · rw [if_pos e] at h1
            split at h1
            · cases h1; exact .inl ⟨by rw [e]; exact List.mem_cons_self .., rfl⟩
            · cases h1
          · rw [if_neg e] at h1
            exact .inr h1
    rcases key js g.sl hs with ⟨h1, rfl⟩ | h1
    · obtain ⟨v, h2, h3⟩ := sat.sl i _ (hj i h1) (by intro z; cases z)
      cases (show v = .ref a from h3)
      exact ⟨.ref a, h2, hd _ lmem sm na⟩
    · obtain ⟨v, h2, h3⟩ := sat.sl i s h1 ns
      exact ⟨v, h2, h3.to sm⟩
  · have hb : b ∈ (g.ow.eraseIdx n).map (·.1) ++ g.gn.map (·.1) := hb
    rcases List.mem_append.mp hb with z | z
    · exact List.mem_append_left _ (sub.subset z)
    · exact List.mem_append_right _ z
theorem SX.freeze (n : Nat) (js : List Nat) {ds : List PyData} (h : g.ow[n]? = some (a, .lst (ds.map Sl.dat))) (hj : ∀ j ∈ js, g.sl[j]? = some (.con (.ref a))) (k : SX t (g.freeze n js (.list ds)) O) : SX t g O := fun H0 σ H D sat r => by
  obtain ⟨s1, s2⟩ := sat.freeze (js := js) (d := .list ds) h hj fun l _ sm na => by
    obtain ⟨vs, h1, h2⟩ := sat.ow _ (List.mem_of_getElem? h)
    exact .lst (offs_of na h1) (h2.dats.to sm)
  exact k H0 σ H D s1 (r.to s2)
theorem holdK_dic {l : List Addr} {H : Hp} : ∀ (kvs : List (Str × Int)) {ws : List (Key × V)}, HoldK l H ws (kvs.map fun p => (.inr p.1, .dat (.int p.2))) → ws = kvs.map fun p => (.inr p.1, .int p.2)
  | [], _, h => by cases h; rfl
  | p :: r, _, h => by
    cases h with
    | cons h1 h2 => rw [hold_int h1, holdK_dic r h2]; rfl
theorem SX.freezeD (n : Nat) (js : List Nat) {kvs : List (Str × Int)} (h : g.ow[n]? = some (a, .dk (kvs.map fun p => (.inr p.1, .dat (.int p.2))))) (hj : ∀ j ∈ js, g.sl[j]? = some (.con (.ref a))) (k : SX t (g.freeze n js (dictD kvs)) O) : SX t g O := fun H0 σ H D sat r => by
  obtain ⟨s1, s2⟩ := sat.freeze (js := js) (d := dictD kvs) h hj fun l _ sm na => by
    obtain ⟨ws, h1, h2⟩ := sat.ow _ (List.mem_of_getElem? h)
    rw [holdK_dic kvs h2] at h1
    exact .dic kvs (offs_of na h1)
  exact k H0 σ H D s1 (r.to s2)
/-! ### calls -/
/-- data in, new data out -/
def spF (pre : List PyData → Prop) (f : List PyData → PyData) : Sp := fun vs H Q _ => ∃ (ds : List PyData) (l : List Addr), DtAll (offs l H) vs ds ∧ (∀ a ∈ l, ∃ o, H a = some o) ∧ l.Nodup ∧ pre ds ∧ ∀ v H', Same H H' → Dt (offs l H') v (f ds) → Q v H'
theorem EX.call {pre : List PyData → Prop} {f : List PyData → PyData} {E : XK} {ta : TA} (h : EAX ta g (ds.map Sl.dat)) (hp : pre ds) (e : f ds = d) : EX (tCall (spF pre f) [] E ta) g (.dat d) := EX.of fun H0 σ H Q sat q => by
  refine h H0 σ H _ sat fun xs H1 ss g1 k1 e1 sat1 sm1 h1 => ?_
  obtain ⟨rfl, rfl⟩ := k1
  rw [List.append_nil]
  exact ⟨ds, g1.l, h1.dats, sat1.dom, sat1.nd, hp, fun v H2 sm2 hv => q v H2 (sat1.mono sm2) (sm1.trans (offs_mono sm2)) (by rw [← e]; exact hv)⟩
theorem EX.callW {pre : List PyData → Prop} {f : List PyData → PyData} {E : XK} {ta : TA} {m : Nat} {gV : List V → List V} {ss : List Sl} (h : EAX ta g ss) (hg : ∀ l H zs, HoldA l H zs ss → zs.length = m ∧ HoldA l H (gV zs) (ds.map Sl.dat)) (hp : pre ds) (e : f ds = d) : EX (tCallW (spF pre f) m gV E ta) g (.dat d) := EX.of fun H0 σ H Q sat q => by
  refine h H0 σ H _ sat fun xs H1 ss g1 k1 e1 sat1 sm1 h1 => ?_
  obtain ⟨rfl, rfl⟩ := k1
  obtain ⟨hm, h2⟩ := hg _ _ _ h1
  exact ⟨hm, ds, g1.l, h2.dats, sat1.dom, sat1.nd, hp, fun v H2 sm2 hv => q v H2 (sat1.mono sm2) (sm1.trans (offs_mono sm2)) (by rw [← e]; exact hv)⟩
/-- a def that changes what its caller owns -/
def spM (φ : List Sl → List (Addr × OD) → List (Addr × Nat) → (Sl → List (Addr × OD) → List (Addr × Nat) → Prop) → Prop) : Sp := fun vs H Q _ => ∃ (ss : List Sl) (g : GS) (K : Sl → List (Addr × OD) → List (Addr × Nat) → Prop),
  g.sl = [] ∧ g.pw = g.ow.map (·.1) ++ g.gn.map (·.1) ∧ Sat H g [] H ∧ HoldA g.l H vs ss ∧ φ ss g.ow g.gn K ∧ ∀ s g' x H', K s g'.ow g'.gn → g'.sl = [] → g'.hd = g.hd → g'.pw = g.pw → Sat H g' [] H' → Same (offs g.l H) (offs g'.l H') → Hold g'.l H' x s → Q x H'
theorem EM.callM {φ : List Sl → List (Addr × OD) → List (Addr × Nat) → (Sl → List (Addr × OD) → List (Addr × Nat) → Prop) → Prop} {E : XK} {ta : TA} (h : EA ta g fun ss g1 => φ ss g1.ow g1.gn fun s ow gn => K s ⟨g1.sl, ow, gn, g1.hd, g1.pw⟩) : EM (tCall (spM φ) [] E ta) g K := fun H0 σ H Q sat q => by
  refine h H0 σ H _ sat fun xs H1 ss g1 k1 e1 sat1 sm1 h1 => ?_
  rw [List.append_nil]
  have el : (⟨[], g1.ow, g1.gn, g1.hd, g1.ow.map (·.1) ++ g1.gn.map (·.1)⟩ : GS).l = g1.l := rfl
  refine ⟨ss, ⟨[], g1.ow, g1.gn, g1.hd, g1.ow.map (·.1) ++ g1.gn.map (·.1)⟩, _, rfl, rfl, ⟨rfl, fun i s hs => by simp at hs, sat1.ow, sat1.gn, sat1.nd, sat1.dom, fun b o _ h => h, fun a ha => .inl ha⟩, h1, k1, ?_⟩
  rintro s ⟨sl2, ow2, gn2, hd2, pw2⟩ x H2 k2 rfl rfl rfl sat2 sm2 h2
  have sm2 : Same (offs g1.l H1) (offs (⟨g1.sl, ow2, gn2, g1.hd, g1.pw⟩ : GS).l H2) := sm2
  refine q x H2 s _ k2 e1 ⟨sat1.len, fun i t ht n => ?_, sat2.ow, sat2.gn, sat2.nd, sat2.dom, fun b o hb h0 => ?_, fun c hc => ?_⟩ (sm1.trans sm2) h2
  · obtain ⟨v, h3, h4⟩ := sat1.sl i t ht n
    exact ⟨v, h3, h4.to sm2⟩
  · refine sat2.same b o (fun z => ?_) (sat1.same b o hb h0)
    rcases sat1.fresh b z with w | w
    · exact hb w
    · rw [w] at h0; cases h0
  · rcases sat2.fresh c hc with w | w
    · exact sat1.fresh c w
    · by_cases hpw : c ∈ g1.pw
      · exact .inl hpw
      · refine .inr ?_
        cases z : H0 c with
        | none => rfl
        | some u => rw [sat1.same c u hpw z] at w; cases w
/-- the law's generator draws -/
def spRnd : Sp := fun vs H Q _ => ∃ (a : Addr) (b n : Nat), vs = [.ref a, .int b] ∧ Gb a (n + 1) H ∧ 0 < b ∧ b < 2 ^ 2000 ∧ ∀ (r : Nat) (H' : Hp), r < b → (∀ c o, c ≠ a → H c = some o → H' c = some o) → Gb a n H' → Q (.int r) H'
theorem EM.rnd {E : XK} {ta : TA} (h : EA ta g fun ss g1 => ∃ a b n, ss = [.con (.ref a), .dat (.int ((b : Nat) : Int))] ∧ g1.gn = [(a, n + 1)] ∧ 0 < b ∧ b < 2 ^ 2000 ∧ ∀ r : Nat, r < b → K (.dat (.int r)) { g1 with gn := [(a, n)] }) : EM (tCall spRnd [] E ta) g K := fun H0 σ H Q sat q => by
  refine h H0 σ H _ sat fun xs H1 ss g1 k1 e1 sat1 sm1 h1 => ?_
  obtain ⟨a, b, n, rfl, eg, b0, b1, k⟩ := k1
  cases h1 with
  | cons a1 a2 =>
    cases a2 with
    | cons a2 a3 =>
      cases a3
      cases (show _ = V.ref a from a1)
      rw [hold_int a2]
      refine ⟨a, b, n, rfl, sat1.gn (a, n + 1) (by rw [eg]; exact List.mem_singleton.mpr rfl), b0, b1, fun r H2 hr frame gb => ?_⟩
      have ia : a ∈ g1.l := List.mem_append_right _ (List.mem_append_left _ (by rw [eg]; exact List.mem_singleton.mpr rfl))
      have el : ({ g1 with gn := [(a, n)] } : GS).l = g1.l := by unfold GS.l; rw [eg]; rfl
      have sm : Same (offs g1.l H1) (offs g1.l H2) := fun c o hc => by
        obtain ⟨nc, hc⟩ := offs_at hc
        exact offs_of nc (frame c o (fun z => nc (z ▸ ia)) hc)
      have nd := sat1.nd
      refine q _ H2 _ _ (k r hr) e1 ⟨sat1.len, fun i t ht n => ?_, fun p hp => ?_, fun p hp => ?_, by rw [el]; exact nd, fun c hc => ?_, fun c o hc h0 => ?_, fun c hc => ?_⟩ (sm1.trans (by rw [el]; exact sm)) (.int _)
      · obtain ⟨v, h3, h4⟩ := sat1.sl i t ht n
        exact ⟨v, h3, by rw [el]; exact h4.to sm⟩
      · rw [el]
        refine (sat1.ow p hp).to sm (frame p.1 · fun z => ?_)
        have := (List.nodup_append.mp nd).2.2 p.1 (List.mem_map.mpr ⟨p, hp, rfl⟩) a (List.mem_append_left _ (by rw [eg]; exact List.mem_singleton.mpr rfl))
        exact this z
      · rw [List.mem_singleton.mp hp]; exact gb
      · rw [el] at hc
        by_cases z : c = a
        · obtain ⟨x, y, w, hw, _⟩ := gb
          exact ⟨_, by rw [z]; exact hw⟩
        · obtain ⟨o, ho⟩ := sat1.dom c hc
          exact ⟨o, frame c o z ho⟩
      · refine frame c o (fun z => ?_) (sat1.same c o hc h0)
        rcases sat1.fresh a (List.mem_append_right _ (by rw [eg]; exact List.mem_singleton.mpr rfl)) with w | w
        · exact hc (z ▸ w)
        · rw [z, w] at h0; cases h0
      · refine sat1.fresh c ?_
        rw [eg]
        exact hc
end
/-! ### a def's body -/
section
variable {P : Program} {w : World} {K : PySem.W.Frag} {mg : Str → Option Value} {base : Heap}
def slots (n : Nat) (ss : List Sl) : List Sl := ss ++ List.replicate (n - ss.length) .no
theorem start_sat {l : List Addr} {H : Hp} {vs : List V} {ss : List Sl} {N : List Str} (h : HoldA l H vs ss) : (L2.start N vs).length = (slots N.length ss).length ∧ ∀ (i : Nat) (s : Sl), (slots N.length ss)[i]? = some s → s ≠ .no → ∃ v : V, (L2.start N vs)[i]? = some (some v) ∧ Hold l H v s := by
  have hl := h.len
  refine ⟨by unfold L2.start slots; simp [hl], fun i s hs n => ?_⟩
  unfold slots at hs
  unfold L2.start
  by_cases hi : i < ss.length
  · rw [List.getElem?_append_left hi] at hs
    obtain ⟨v, h1, h2⟩ := h.get hs
    exact ⟨v, by rw [List.getElem?_append_left (by rw [List.length_map]; omega), List.getElem?_map, h1]; rfl, h2⟩
  · rw [List.getElem?_append_right (by omega)] at hs
    have := List.mem_of_getElem? hs
    exact absurd (List.eq_of_mem_replicate this) n
/-- what a def with data alone is to leave -/
def outF (hd : List Addr) (d : PyData) : Out := { nx := fun g' => d = .none ∧ g'.hd = hd ∧ g'.pw = [], rt := fun s g' => s = .dat d ∧ g'.hd = hd ∧ g'.pw = [] }
theorem outF_nx {hd : List Addr} {H : Hp} {g' : GS} {σ' : L2.St} {H' : Hp} (e : g'.hd = hd) (e2 : g'.pw = []) (sat' : Sat H g' σ' H') : Same H H' ∧ Same (offs g'.l H') (offs hd H') := by
  refine ⟨fun b o h => sat'.same b o (by rw [e2]; simp) h, fun b o h => ?_⟩
  obtain ⟨n, h⟩ := offs_at h
  exact offs_of (fun z => n (List.mem_append_right _ (List.mem_append_right _ (by rw [e]; exact z)))) h
/-- data in, new data out -/
theorem bodyF {x : Str} {st : Stmt} {f : Addr} {fd : FuncData} {N ps : List Str} {k : Nat} {pre : List PyData → Prop} {fn : List PyData → PyData}
    (F : DefAt K x st f fd) (S : FnScope N ps (defScope st)) (ar : ∀ ds, pre ds → ds.length = ps.length)
    (hb : ∀ (cdv : Value) (A : Around) (outer : List Env) (s : Shared) (H : Hp) (E : XK), Gd (A.deeper (envOfC x (defScope st) s.heap.objs.size f cdv)) → Room k (A.deeper (envOfC x (defScope st) s.heap.objs.size f cdv)) →
      ∃ t, PSs (cxOf CX0 P w K mg base N x (defScope st) f cdv A outer s H E).nox (defBody st) t ∧ ∀ ds hd, pre ds → SX t ⟨slots N.length (ds.map Sl.dat), [], [], hd, []⟩ (outF hd (fn ds))) : FnG P w K mg base CX0 (k + 1) f fd ps (spF pre fn) := by
  refine bodyG0 F S (fun vs H Q E h => ?_) fun cdv A outer s H vs Q E gd hr h => ?_
  · obtain ⟨ds, l, h1, _, _, h2, _⟩ := h
    rw [h1.len, ar ds h2]
  · obtain ⟨ds, l, h1, dom, nd, h2, q⟩ := h
    obtain ⟨t, p1, p2⟩ := hb cdv A outer s H E gd hr
    refine ⟨t, p1, p2 ds l h2 H _ H _ ?_ ⟨fun g' σ' H' e sat' sm => ?_, fun s g' σ' v H' e sat' sm hv => ?_, fun _ _ _ z => z.elim, fun _ _ _ z => z.elim⟩⟩
    · obtain ⟨a1, a2⟩ := start_sat (N := N) (HoldA.of h1)
      exact ⟨a1, a2, fun p hp => (nomatch hp), fun p hp => (nomatch hp), nd, dom, fun b o _ h => h, fun a ha => (nomatch ha)⟩
    · obtain ⟨e1, e2, e3⟩ := e
      obtain ⟨s1, s2⟩ := outF_nx e2 e3 sat'
      exact q .non H' s1 (by rw [e1]; exact .non)
    · obtain ⟨rfl, e2, e3⟩ := e
      obtain ⟨s1, s2⟩ := outF_nx e2 e3 sat'
      exact q v H' s1 (Dt.to hv s2)
/-- a def that changes what its caller owns -/
theorem bodyM {x : Str} {st : Stmt} {f : Addr} {fd : FuncData} {N ps : List Str} {k : Nat} {φ : List Sl → List (Addr × OD) → List (Addr × Nat) → (Sl → List (Addr × OD) → List (Addr × Nat) → Prop) → Prop}
    (F : DefAt K x st f fd) (S : FnScope N ps (defScope st)) (ar : ∀ ss ow gn K, φ ss ow gn K → ss.length = ps.length)
    (hb : ∀ (cdv : Value) (A : Around) (outer : List Env) (s : Shared) (H : Hp) (E : XK), Gd (A.deeper (envOfC x (defScope st) s.heap.objs.size f cdv)) → Room k (A.deeper (envOfC x (defScope st) s.heap.objs.size f cdv)) →
      ∃ t, PSs (cxOf CX0 P w K mg base N x (defScope st) f cdv A outer s H E).nox (defBody st) t ∧ ∀ ss ow gn hd pw K, φ ss ow gn K → SX t ⟨slots N.length ss, ow, gn, hd, pw⟩ { nx := fun g' => K (.dat .none) g'.ow g'.gn ∧ g'.hd = hd ∧ g'.pw = pw, rt := fun s g' => K s g'.ow g'.gn ∧ g'.hd = hd ∧ g'.pw = pw }) : FnG P w K mg base CX0 (k + 1) f fd ps (spM φ) := by
  refine bodyG0 F S (fun vs H Q E h => ?_) fun cdv A outer s H vs Q E gd hr h => ?_
  · obtain ⟨ss, g, K', _, _, _, h1, h2, _⟩ := h
    rw [h1.len, ar _ _ _ _ h2]
  · obtain ⟨ss, ⟨sl, ow, gn, hd, pw⟩, K', rfl, ep, sat, h1, h2, q⟩ := h
    obtain ⟨t, p1, p2⟩ := hb cdv A outer s H E gd hr
    have fin : ∀ (g' : GS) (σ' : L2.St) (H' : Hp), Sat H g' σ' H' → Sat H { g' with sl := [] } [] H' := fun g' σ' H' sat' =>
      ⟨rfl, fun i s hs => by simp at hs, sat'.ow, sat'.gn, sat'.nd, sat'.dom, sat'.same, sat'.fresh⟩
    refine ⟨t, p1, p2 ss ow gn hd pw K' h2 H _ H _ ?_ ⟨fun g' σ' H' e sat' sm => ?_, fun s g' σ' v H' e sat' sm hv => ?_, fun _ _ _ z => z.elim, fun _ _ _ z => z.elim⟩⟩
    · obtain ⟨a1, a2⟩ := start_sat (N := N) h1
      exact ⟨a1, a2, sat.ow, sat.gn, sat.nd, sat.dom, sat.same, sat.fresh⟩
    · obtain ⟨e1, e2, e3⟩ := e
      exact q (.dat .none) { g' with sl := [] } .non H' e1 rfl e2 e3 (fin g' σ' H' sat') sm .non
    · obtain ⟨e1, e2, e3⟩ := e
      exact q s { g' with sl := [] } v H' e1 rfl e2 e3 (fin g' σ' H' sat') sm hv
end
end Hw

set_option Elab.async false
set_option linter.all false
set_option maxRecDepth 100000
set_option maxHeartbeats 4000000
/-! own exceptions as values, made with keywords too -/
namespace Hw
open PySem PySem.Spec PyProof.Rows L2
open PySem.W PySem.Calls PySem.HandSPX
section
variable {prog : Program} {w : World} {A : Around} {E : Value → Shared → Prop} {R : Result → Shared → Prop} {h : Heap} {g : Array GenState} {d : Drawn} {t : Nat} {os : OsState}
variable {nm q : Str} {C N : Addr} {bs bm bmB : List Value} {hdct : Bool} {sn : List Str} {sub : List Value} {ab : Bool} {col : Option Bool} {dd : Option Addr} {k0 k1 k2 k3 k5 : Option Value} {B newId initId : String}
variable {rest : List Value} {kw : List (Str × Value)}
/-- the check of the maker's call, keywords or not -/
theorem new_checks {M : Model} {Q : Unit → Shared → Prop} (F : ExcBaseFacts B newId initId bmB) (tail : ∀ Y : String, bm.contains (.type Y) = bmB.contains (.type Y))
    (hC : h.get? C = some (excClassObj nm q C N bs bm hdct sn sub ab col dd k0 k1 k2 k3 k5 newId)) (next : Q () ⟨h, g, d, t, os⟩) : wpAny M A (checkBuiltinCall newId ⟨.ref C :: rest, kw⟩) Q E ⟨h, g, d, t, os⟩ := by
  have isB : (Value.ref C :: bm).contains (.type B) = true := by
    rw [List.contains_cons, tail, F.hasB]
    exact Bool.or_true _
  have ns := F.noStar
  simp only [checkBuiltinCall, F.newKind, F.newSplit, F.newRow]
  repeat' (first
    | refine wpAny_loadPart_at hC ?_
    | (refine wpAny_isSubtype_exc hC ?_
       rw [isB])
    | refine wpAny_staticBase_exc hC ?_
    | refine wpAny_madeBy_exc hC ?_
    | simp only [bne_self_eq_false, Bool.false_eq_true, if_false]
    | wp_step)
  all_goals first | exact next | skip
/-- the maker itself: a tuple of what it got by position, the exception -/
theorem new_makes (F : ExcBaseFacts B newId initId bmB) (tail : ∀ Y : String, bm.contains (.type Y) = bmB.contains (.type Y))
    (hC : h.get? C = some (excClassObj nm q C N bs bm hdct sn sub ab col dd k0 k1 k2 k3 k5 newId)) (few : rest.length ≤ sizeLine)
    (next : R (.ok (.ret (.ref (h.objs.size + 1)))) ⟨(h.push (W.kdv_tup rest)).push (excO C h.objs.size), g, d, t, os⟩) :
    codeAny (model prog w) A (.builtin newId ⟨.ref C :: rest, kw⟩) R ⟨h, g, d, t, os⟩ := by
  have e1 := F.ends
  have isB : (Value.ref C :: bm).contains (.type B) = true := by
    rw [List.contains_cons, tail, F.hasB]
    exact Bool.or_true _
  have noA : (Value.ref C :: bm).contains (.type "AttributeError") = false := by
    rw [List.contains_cons, tail, F.noAttr]
    rfl
  have noN : (Value.ref C :: bm).contains (.type "NameError") = false := by
    rw [List.contains_cons, tail, F.noName]
    rfl
  refine codeAny_builtinAt F.entry ?_
  unfold Builtin.«BaseException.__new__»
  refine PySem.wpAt_bind ?_
  show PySem.wpAt _ _ _ (stack >>= _) _ _ _
  refine PySem.wpAt_bind (PySem.wpAt_stack fun p below => PySem.wpAt_of_wpAny ?_)
  wp_walk
  refine PySem.wpAt_of_wpAny ?_
  rw [F.owner]
  repeat (first
    | with_reducible refine wpAny_madeHere_exc F.canon hC ?_
    | with_reducible refine wpAny_loadPart_at hC ?_
    | (with_reducible refine wpAny_isSubtype_exc hC ?_
       first | rw [isB] | rw [noA] | rw [noN])
    | wp_step)
  show R _ _
  rw [Heap.size_push]
  exact next
theorem type_makes {fI : Addr} {Q : Fin → Shared → Prop} (F : ExcBaseFacts B newId initId bmB) (tail : ∀ Y : String, bm.contains (.type Y) = bmB.contains (.type Y))
    (hC : h.get? C = some (excClassObj nm q C N bs bm hdct sn sub ab col dd k0 k1 k2 k3 k5 newId))
    (look : W.Looks (model prog w) h (typeLookup (.ref C) "__init__") (some (.ref fI))) (bound : ∀ self, W.Looks (model prog w) h (bindSpecial (.ref fI) self) (.ref fI, [self])) (few : rest.length ≤ sizeLine)
    (run : codeAny (model prog w) A (.call (.ref fI) ⟨.ref (h.objs.size + 1) :: rest, kw⟩) (fun r s' => match r with
        | .ok (.ret v) => v = .none ∧ Q (.done (.ret (.ref (h.objs.size + 1)))) s'
        | .ok _ => False
        | .error e => E e s') ⟨(h.push (W.kdv_tup rest)).push (excO C h.objs.size), g, d, t, os⟩) :
    wpAny (model prog w) A (Builtin.«type.__call__» ⟨.ref C :: rest, kw⟩) Q E ⟨h, g, d, t, os⟩ := by
  repeat (first
    | with_reducible refine wpAny_loadPart_at hC ?_
    | with_reducible refine wpAny_madeBy_exc hC ?_
    | wp_step)
  refine codeAny_call_builtin_code (Code.quiet_builtin _ F.quiet) (new_checks F tail hC ?_)
  refine new_makes F tail hC few ?_
  show wpAny _ _ _ _ _ _
  have kept : ∀ b o, h.get? b = some o → ((h.push (W.kdv_tup rest)).push (excO C h.objs.size)).get? b = some o := fun b o e => Heap.get?_push_of_some _ (Heap.get?_push_of_some _ e)
  have c1 := kept _ _ hC
  have made : ((h.push (W.kdv_tup rest)).push (excO C h.objs.size)).get? (h.objs.size + 1) = some (excO C h.objs.size) := by heap_get
  have self_in : (Value.ref C :: bm).contains (.ref C) = true := by simp
  have l1 := look.keeps kept
  have b1 := (bound (.ref (h.objs.size + 1))).keeps kept
  unfold isInstance
  repeat (first
    | with_reducible refine wpAny_loadPart_at made ?_
    | (with_reducible refine wpAny_isSubtype_exc c1 ?_
       rw [self_in])
    | wp_step)
  show wpAny _ _ (typeLookup (.ref C) _) _ _ _
  refine l1.at (wpAny_holding (wpAny_bind (b1.at (wpAny_bind (wpAny_call (codeAny_mono run fun r s' z => ?_))))))
  cases r with
  | error e => exact z
  | ok v =>
    cases v with
    | ret v =>
      obtain ⟨rfl, z⟩ := z
      first
        | exact wpAny_pure (wpAny_pure z)
        | (wp_walk
           exact z)
    | next => exact z.elim
    | brk => exact z.elim
    | cont => exact z.elim
theorem type_checks {M : Model} {Q : Unit → Shared → Prop} (hC : h.get? C = some (excClassObj nm q C N bs bm hdct sn sub ab col dd k0 k1 k2 k3 k5 newId)) (next : Q () ⟨h, g, d, t, os⟩) : wpAny M A (checkBuiltinCall "type.__call__" ⟨.ref C :: rest, kw⟩) Q E ⟨h, g, d, t, os⟩ := by
  have sub := tc_sub
  have ty : (⟨h, g, d, t, os⟩ : Shared).TypeIs (.ref C) "type" := ⟨_, hC, rfl⟩
  simp only [checkBuiltinCall, tc_kind, tc_split]
  repeat (any_goals (first
    | assumption
    | with_reducible refine wpAny_loadPart_at hC ?_
    | with_reducible refine wpAny_onRaise ?_
    | with_reducible refine wpAny_map ?_
    | wp_step))
/-- C(.., name=..): an own exception whose __init__ is a def -/
theorem call_makes {fI : Addr} (F : ExcBaseFacts B newId initId bmB) (tail : ∀ Y : String, bm.contains (.type Y) = bmB.contains (.type Y))
    (hC : h.get? C = some (excClassObj nm q C N bs bm hdct sn sub ab col dd k0 k1 k2 k3 k5 newId))
    (look : W.Looks (model prog w) h (typeLookup (.ref C) "__init__") (some (.ref fI))) (bound : ∀ self, W.Looks (model prog w) h (bindSpecial (.ref fI) self) (.ref fI, [self])) (few : rest.length ≤ sizeLine)
    (run : codeAny (model prog w) (A.under (.builtin "type.__call__" ⟨.ref C :: rest, kw⟩)) (.call (.ref fI) ⟨.ref (h.objs.size + 1) :: rest, kw⟩) (W.InitBack (h.objs.size + 1) R)
      ⟨(h.push (W.kdv_tup rest)).push (excO C h.objs.size), g, d, t, os⟩) :
    codeAny (model prog w) A (.call (.ref C) ⟨rest, kw⟩) R ⟨h, g, d, t, os⟩ := by
  have f1 := tc_lookup
  have f2 := tc_bind (.ref C)
  have ty : (⟨h, g, d, t, os⟩ : Shared).TypeIs (.ref C) "type" := ⟨_, hC, rfl⟩
  refine codeAny_of_tree ?_
  show wpAny _ _ (callAny (.ref C) _) _ _ _
  repeat (any_goals (first
    | assumption
    | with_reducible refine wpAny_loadPart_at hC ?_
    | wp_step))
  refine ⟨rfl, ?_⟩
  refine codeAny_call_builtin_at (Code.quiet_builtin _ (by decide +kernel)) entry_typeCall (type_checks hC (type_makes F tail hC look bound few (codeAny_mono run fun r s' z => ?_)))
  rcases r with e | (v | _ | _ | _)
  all_goals exact z
end
end Hw

namespace Hw
open PySem PySem.Spec PyProof.Rows L2
/-- what is asked of an own exception class whose __init__ keeps its value -/
structure XcF (K : PySem.W.Frag) (C : Addr) : Prop where
  oex : OexC K C
  fld : XfC K C
  cl : PySem.W.findIn K (.ref C) "__class__" = some (some (.builtin "object.__class__"))
  sp : PySem.W.specialIn K (.builtin "object.__class__") "__get__" = some (some (.builtin "getset_descriptor.__get__"))
  tk : PySem.W.takesIn K (.builtin "object.__class__") = some true
  ob : PySem.W.mroIn K C (.type "object") = some true
  is : (PySem.W.clsIn K C).isSome = true
  no : PySem.W.findIn K (.ref C) "value" = some none
def shapeB (K : PySem.W.Frag) (C : Addr) : Bool := match K.lookup C with
  | some ⟨.type t, _, .cls cd, sl⟩ => (match cd.mro, sl.toList with
    | .ref c0 :: bm, [_, _, _, _, some (.builtin nw), _] => decide (t = "type") && (decide (c0 = C) && (decide (nw = "ValueError.__new__") && (cd.hasDict && (!cd.hasDel && PySem.HandSPX.refsVE bm))))
    | _, _ => false)
  | _ => false
theorem shape_ok {K : PySem.W.Frag} {C : Addr} (h : shapeB K C = true) : ∃ nm q N bs bm sn sub ab col dd k0 k1 k2 k3 k5, K.lookup C = some (excClassObj nm q C N bs bm true sn sub ab col dd k0 k1 k2 k3 k5 "ValueError.__new__") ∧ PySem.HandSPX.refsVE bm = true := by
  unfold shapeB at h
  split at h
  · rename_i t dd cd sl look
    split at h
    · rename_i c0 bm k0 k1 k2 k3 nw k5 e1 e2
      simp only [Bool.and_eq_true, decide_eq_true_eq, Bool.not_eq_true'] at h
      obtain ⟨ht, hc, hn, hd, hl, hv⟩ := h
      subst ht hc hn
      obtain ⟨nm, bs, mro, ns, qn, hd', sn, sub, ab, col, del⟩ := cd
      dsimp only at e1 hd hl
      subst e1 hd hl
      have es : sl = #[k0, k1, k2, k3, some (.builtin "ValueError.__new__"), k5] := by
        obtain ⟨l⟩ := sl
        dsimp only at e2
        rw [e2]
      subst es
      exact ⟨nm, qn, ns, bs, bm, sn, sub, ab, col, dd, k0, k1, k2, k3, k5, look, hv⟩
    · cases h
  · cases h
def xcB (K : PySem.W.Frag) (C : Addr) : Bool :=
  shapeB K C && (He.eqO (PySem.W.findIn K (.ref C) "__setattr__") (some (some (.builtin "object.__setattr__"))) && (decide (PySem.W.subIn K (.ref C) (.type "BaseException") = some true) && (decide (PySem.W.typeIn K (.ref C) = some (.type "type")) && (PySem.W.keepIn K (.ref C) &&
  (xfB K C && (He.eqO (PySem.W.findIn K (.ref C) "__class__") (some (some (.builtin "object.__class__"))) && (He.eqO (PySem.W.specialIn K (.builtin "object.__class__") "__get__") (some (some (.builtin "getset_descriptor.__get__"))) &&
  (decide (PySem.W.takesIn K (.builtin "object.__class__") = some true) && (decide (PySem.W.mroIn K C (.type "object") = some true) && ((PySem.W.clsIn K C).isSome && He.eqO (PySem.W.findIn K (.ref C) "value") (some none)))))))))))
theorem xcB_ok {K : PySem.W.Frag} {C : Addr} (h : xcB K C = true) : XcF K C := by
  unfold xcB at h
  obtain ⟨h1, h⟩ := He.ba h
  obtain ⟨h2, h⟩ := He.ba h
  obtain ⟨h3, h⟩ := He.ba h
  obtain ⟨h4, h⟩ := He.ba h
  obtain ⟨h5, h⟩ := He.ba h
  obtain ⟨h6, h⟩ := He.ba h
  obtain ⟨h7, h⟩ := He.ba h
  obtain ⟨h8, h⟩ := He.ba h
  obtain ⟨h9, h⟩ := He.ba h
  obtain ⟨hA, h⟩ := He.ba h
  obtain ⟨hB, hC⟩ := He.ba h
  exact ⟨⟨shape_ok h1, He.eqO_ok h2, of_decide_eq_true h3, of_decide_eq_true h4, h5⟩, xfB_ok h6, He.eqO_ok h7, He.eqO_ok h8, of_decide_eq_true h9, of_decide_eq_true hA, hB, He.eqO_ok hC⟩
section
variable {X : Cx}
/-- e.value of an own exception that is held -/
def tXv (K : PySem.W.Frag) (n : Str) (te : TE) : TE := fun σ H Q => te σ H fun x H1 => ∃ (a C d : Addr) (fs : List (Str × V)) (y : V), x = .ref a ∧ XfC K C ∧ PySem.W.findIn K (.ref C) n = some none ∧ H1 a = some (exo a C (some d)) ∧ H1 d = some (exd d fs) ∧ fs.lookup n = some y ∧ Q y H1
theorem pe_xv {K : PySem.W.Frag} {e : Expr} {te : TE} {pos : Pos} {n : Str} (hK : X.K = K) (he : PE X e te) (hb : attributeBase e n X.env (eval e X.env) = eval e X.env := by rfl) : PE X (.Attribute e n pos) (tXv K n te) := by
  subst hK
  constructor
  intro pins s σ H Q I h
  refine attr_of hb (thn (he.run pins s σ H _ I h) ?_)
  rintro u s1 ⟨x, H1, I1, rx, a, C, d, fs, y, rfl, T, no, ea, ed, l, q⟩
  cases (show u = Value.ref a from rx)
  obtain ⟨t1, oa⟩ := exo_at I1.hok ea
  obtain ⟨mA, ns, rel⟩ := exd_at I1.hok ed
  obtain ⟨od, look, val⟩ := lookIn_ns ns
  obtain ⟨v, hv, rv⟩ := RelO.some_of (v := y) (o := mA n) (by rw [← l]; exact rel n)
  have at_ : PySem.W.InstAt s1.heap a { cls := .ref C, dict := some d, data := .fields #[.ref t1, .none, .none, .none, .bool false, .none] } C (some od) := ⟨oa, rfl, rfl, look⟩
  exact HandSPX.exc_get I1.kIn at_ T.ga T.gg T.exC (PySem.W.findObj_own T.hdC no rfl (by rw [val, hv])) (handed_of rv) ⟨y, H1, I1.tok _, rv, q⟩
/-- isinstance(e, T) of an own exception that is held -/
def rIsX (K : PySem.W.Frag) : List V → Hp → VK → Prop := fun xs H Q => ∃ (a C : Addr) (d : Option Addr) (c : V) (u : Value) (b : Bool), xs = [.ref a, c] ∧ ClsV c u ∧ XcF K C ∧ H a = some (exo a C d) ∧ (∀ e, d = some e → ∃ fs, H e = some (exd e fs)) ∧ PySem.W.kitOne K (.ref C) u = some b ∧ Q (.bl b) H
theorem call_isX {K : PySem.W.Frag} (hK : X.K = K) : CallR X (.builtin "isinstance") (rIsX K) := by
  subst hK
  intro pins s σ H xs us Q I r h
  obtain ⟨a, C, d, c, u, b, rfl, k, T, ea, hd, e, q⟩ := h
  obtain ⟨u1, u2, rfl, r1, r2⟩ := vals2 r
  cases k.eq r2
  cases (show u1 = Value.ref a from r1)
  obtain ⟨t1, oa⟩ := exo_at I.hok ea
  have is : ∃ od, PySem.W.InstAt s.heap a { cls := .ref C, dict := d, data := .fields #[.ref t1, .none, .none, .none, .bool false, .none] } C od := by
    cases d with
    | none => exact ⟨none, oa, rfl, rfl, trivial⟩
    | some d =>
      obtain ⟨fs, ed⟩ := hd d rfl
      obtain ⟨mA, ns, _⟩ := exd_at I.hok ed
      obtain ⟨od, look, _⟩ := lookIn_ns ns
      exact ⟨some od, oa, rfl, rfl, look⟩
  obtain ⟨od, J⟩ := is
  exact PySem.W.kia_one (PySem.W.kitx_exc T.is T.fld.ga T.fld.gg T.oex.exC T.cl T.sp T.tk T.ob) I.kIn J e (fun z => nomatch z) fun tk => ⟨.bl b, H, I.tok tk, rfl, q⟩
end
end Hw

set_option Elab.async false
set_option linter.all false
set_option maxRecDepth 100000
set_option maxHeartbeats 4000000
/-! C(value), C(value=..), C(): an own exception is made and held -/
namespace Hw
open PySem PySem.Spec PyProof.Rows L2
/-- the promise of such an __init__ -/
def spInit (K : PySem.W.Frag) : Sp := fun vs H Q _ => ∃ (a C : Addr) (y : V), vs = [.ref a, y] ∧ OexC K C ∧ PySem.W.findIn K (.ref C) "value" = some none ∧ H a = some (exo a C none) ∧ ∀ d, H d = none → d ≠ a → Q .non (upd (upd H d (exd d [("value", y)])) a (exo a C (some d)))
/-- what was made: a, its dict d, the value y -/
def Made (H : Hp) (C : Addr) (y : V) (Q : VK) : Prop := ∀ (a d : Addr) (H' : Hp), H a = none → H d = none → d ≠ a → Same H H' → H' a = some (exo a C (some d)) → H' d = some (exd d [("value", y)]) → Q (.ref a) H'
section
variable {X : Cx} {CX : CXT} {k : Nat} {fI C : Addr} {fd : FuncData}
theorem run_made {pins : List (Addr × Obj)} {σ : L2.St} {H : Hp} {s : Shared} {Q : VK} {us0 : List Value} {kw : List (Str × Value)} {u : Value} {y : V} (T : XcF X.K C) (iC : PySem.W.findIn X.K (.ref C) "__init__" = some (some (.ref fI))) (tI : PySem.W.typeIn X.K (.ref fI) = some (.type "function"))
    (F : FnG X.prog X.w X.K X.mg X.base CX k fI fd ["self", "value"] (spInit X.K)) (gd : Gd X.A) (hr : Room (k + 1) X.A) (hx : Passes CX X (fun _ _ _ => False)) (I : Inv X pins σ H s)
    (hb : ∀ (s : Shared) (e : Value), X.K.In s.heap → BindsTo s fd ⟨e :: us0, kw⟩ ((["self", "value"] : List Str).zip [e, u])) (ry : RelV y u) (few : us0.length ≤ sizeLine) (h : Made H C y Q) :
    wpAny (model X.prog X.w) X.A (call (.ref C) us0 kw) (EP X pins σ Q) X.xe s := by
  obtain ⟨nm, q, N, bs, bm, sn, sub, ab, col, dd, k0, k1, k2, k3, k5, hC, hbm⟩ := T.oex.cls
  obtain ⟨hp, g, dr, tk, os⟩ := s
  have gone : H (hp.objs.size + 1) = none := I.hok.fresh (Nat.le_succ _)
  have at_ : ((hp.push (PySem.W.kdv_tup us0)).push (PySem.HandSPX.excO C hp.objs.size)).get? (hp.objs.size + 1) = some (PySem.HandSPX.excO C hp.objs.size) := by heap_get
  have I2 : Inv X pins σ (upd H (hp.objs.size + 1) (exo (hp.objs.size + 1) C none)) ⟨(hp.push (PySem.W.kdv_tup us0)).push (PySem.HandSPX.excO C hp.objs.size), g, dr, tk, os⟩ :=
    I.laid (t' := tk) (a := hp.objs.size + 1) (o := exo (hp.objs.size + 1) C none) (fun b o e => Heap.get?_push_of_some _ (Heap.get?_push_of_some _ e)) (Nat.le_succ _) (exo_ok at_)
  refine wpAny_call (call_makes PySem.F.excBase_ValueError (fun Y => PySem.HandSPX.refsVE_contains Y bm hbm) (I.kIn _ _ hC) (PySem.W.looks_findIn I.kIn iC) (fun self => PySem.W.bind_fn I.kIn self tI) few ?_)
  refine codeAny_mono (F.go _ X.stack _ _ ⟨Value.ref (hp.objs.size + 1) :: us0, kw⟩ [Value.ref (hp.objs.size + 1), u] [V.ref (hp.objs.size + 1), y] (fun v H2 => v = .non ∧ Q (.ref (hp.objs.size + 1)) H2) (fun _ _ _ => False) gd (hr.make C us0 kw) (I2.env0.make C us0 kw) (hb _ _ I2.kIn) (.cons rfl (.cons ry .nil)) ?_) ?_
  · refine ⟨_, C, y, rfl, T.oex, T.no, upd_same, fun d hd nd => ⟨rfl, ?_⟩⟩
    have hd0 : H d = none := by
      rw [upd_ne nd] at hd
      exact hd
    refine h _ d _ gone hd0 nd (fun b o e => ?_) upd_same ?_
    · rw [upd_ne (ne_of_none e gone), upd_ne (ne_of_none e hd0), upd_ne (ne_of_none e gone)]
      exact e
    · rw [upd_ne nd, upd_same]
  · intro r s' after
    cases r with
    | error e => exact hx pins σ _ _ e s' I2 after
    | ok fl =>
      cases fl with
      | ret v =>
        obtain ⟨x, H2, J, rv, ev, q2⟩ := I2.after after
        subst ev
        exact ⟨rv, ⟨.ref (hp.objs.size + 1), H2, J, rfl, q2⟩⟩
      | next => exact False.elim after
      | brk => exact False.elim after
      | cont => exact False.elim after
/-- C(value) -/
def tX1 (C : Addr) (t : TA) : TE := fun σ H Q => t σ H fun vs H1 => ∃ y, vs = [y] ∧ Made H1 C y Q
/-- C(), C(value=value): the value is y of what is handed -/
def tX0 (C : Addr) (y : V) : TE := fun _ H Q => Made H C y Q
section
variable {x : Str} {p pos : Pos} {e : Expr} {es : List Expr} {kws : List Keyword} {t tk : TA} {ks : List Str}
theorem pe_x1 {g : List Value → List Value → List Value} {gV : List V → List V → List V} (T : XcF X.K C) (iC : PySem.W.findIn X.K (.ref C) "__init__" = some (some (.ref fI))) (tI : PySem.W.typeIn X.K (.ref fI) = some (.type "function"))
    (F : FnG X.prog X.w X.K X.mg X.base CX k fI fd ["self", "value"] (spInit X.K)) (gd : Gd X.A) (hr : Room (k + 1) X.A) (hx : Passes CX X (fun _ _ _ => False)) (hg : Gl X x) (hm : X.mg x = some (.ref C))
    (hb : ∀ (s : Shared) (e u : Value), X.K.In s.heap → BindsTo s fd ⟨[e, u], []⟩ ((["self", "value"] : List Str).zip [e, u])) (ha : PA X (e :: es) t)
    (hdb : (x == ("__debug__" : Str)) = false := by decide) (he : starEach (e :: es) X.env = (false, eval e X.env) :: starEach es X.env := by rfl) (hpl : (backTo pos (starEach es X.env)).any (·.1) = false := by rfl) :
    PE X (.Call (.Name x p) (e :: es) [] pos) (tX1 C t) := by
  constructor
  intro pins s σ H Q I h
  apply wpAny_Call_Name_kw
  refine ld_glob I hg hm (PySem.W.callWith_K (h₀ := X.base) I.ok.mod.kin T.oex.kC (thn (ha.run pos pins s σ H _ I h) ?_) he hpl) hdb
  rintro us s1 ⟨vs, H1, I1, r, y, rfl, made⟩
  obtain ⟨u, rfl, ru⟩ := vals1 r
  exact ⟨I1.kIn, run_made T iC tI F gd hr hx I1 (fun s e hK => hb s e u hK) ru (by show 1 ≤ sizeLine; rw [sizeLine_eq]; decide) made⟩
theorem pe_x0 (T : XcF X.K C) (iC : PySem.W.findIn X.K (.ref C) "__init__" = some (some (.ref fI))) (tI : PySem.W.typeIn X.K (.ref fI) = some (.type "function"))
    (F : FnG X.prog X.w X.K X.mg X.base CX k fI fd ["self", "value"] (spInit X.K)) (gd : Gd X.A) (hr : Room (k + 1) X.A) (hx : Passes CX X (fun _ _ _ => False)) (hg : Gl X x) (hm : X.mg x = some (.ref C))
    (hb : ∀ (s : Shared) (e : Value), X.K.In s.heap → BindsTo s fd ⟨[e], []⟩ ((["self", "value"] : List Str).zip [e, .none])) (hall : (backToKw pos (keywordEach [] X.env)).all (·.1.isSome) = true := by rfl)
    (hdb : (x == ("__debug__" : Str)) = false := by decide) (hpl : ((backTo pos (starEach [] X.env)).any (·.1) || (backToKw pos (keywordEach [] X.env)).any (·.1.isNone)) = false := by rfl) :
    PE X (.Call (.Name x p) [] [] pos) (tX0 C .non) := by
  constructor
  intro pins s σ H Q I h
  apply wpAny_Call_Name_kw
  refine ld_glob I hg hm (PySem.W.callWith_KW0 (h₀ := X.base) I.ok.mod.kin T.oex.kC hall (thn (pk_nil.run pos pins s σ H (fun vs H1 => vs = [] ∧ H1 = H) I ⟨rfl, rfl⟩) ?_) hpl) hdb
  rintro ws s1 ⟨zs, H1, I1, rz, rfl, rfl⟩
  cases rz
  exact ⟨I1.kIn, run_made T iC tI F gd hr hx I1 (u := .none) (y := .non) (us0 := []) (kw := []) (fun s e hK => hb s e hK) rfl (Nat.zero_le _) h⟩
/-- C(value=..) -/
theorem pe_xk (T : XcF X.K C) (iC : PySem.W.findIn X.K (.ref C) "__init__" = some (some (.ref fI))) (tI : PySem.W.typeIn X.K (.ref fI) = some (.type "function"))
    (F : FnG X.prog X.w X.K X.mg X.base CX k fI fd ["self", "value"] (spInit X.K)) (gd : Gd X.A) (hr : Room (k + 1) X.A) (hx : Passes CX X (fun _ _ _ => False)) (hg : Gl X x) (hm : X.mg x = some (.ref C))
    (hb : ∀ (s : Shared) (e u : Value), X.K.In s.heap → BindsTo s fd ⟨[e], [("value", u)]⟩ ((["self", "value"] : List Str).zip [e, u])) (hkw : PK X kws tk) (hall : (backToKw pos (keywordEach kws X.env)).all (·.1.isSome) = true := by rfl)
    (hks : (backToKw pos (keywordEach kws X.env)).filterMap (·.1) = (["value"] : List Str) := by rfl)
    (hdb : (x == ("__debug__" : Str)) = false := by decide) (hpl : ((backTo pos (starEach [] X.env)).any (·.1) || (backToKw pos (keywordEach kws X.env)).any (·.1.isNone)) = false := by rfl) :
    PE X (.Call (.Name x p) [] kws pos) (tX1 C tk) := by
  constructor
  intro pins s σ H Q I h
  apply wpAny_Call_Name_kw
  refine ld_glob I hg hm (PySem.W.callWith_KW0 (h₀ := X.base) I.ok.mod.kin T.oex.kC hall (thn (hkw.run pos pins s σ H _ I h) ?_) hpl) hdb
  rintro ws s1 ⟨zs, H1, I1, rz, y, rfl, made⟩
  obtain ⟨u, rfl, ru⟩ := vals1 rz
  rw [hks]
  exact ⟨I1.kIn, run_made T iC tI F gd hr hx I1 (us0 := []) (kw := [("value", u)]) (fun s e hK => hb s e u hK) ru (Nat.zero_le _) made⟩
/-- C() of a class without own __init__ -/
theorem pe_x00 {bmB : List Value} (T : XcF X.K C) (q : PySem.W.excIn X.K C He.veBase "ValueError.__new__" = true) (hg : Gl X x) (hm : X.mg x = some (.ref C)) (hall : (backToKw pos (keywordEach [] X.env)).all (·.1.isSome) = true := by rfl)
    (hdb : (x == ("__debug__" : Str)) = false := by decide) (hpl : ((backTo pos (starEach [] X.env)).any (·.1) || (backToKw pos (keywordEach [] X.env)).any (·.1.isNone)) = false := by rfl) :
    PE X (.Call (.Name x p) [] [] pos) (fun _ H Q => ∀ a, H a = none → Q (.ref a) (upd H a (exo a C none))) := by
  constructor
  intro pins s σ H Q I h
  apply wpAny_Call_Name_kw
  refine ld_glob I hg hm (PySem.W.callWith_KW0 (h₀ := X.base) I.ok.mod.kin T.oex.kC hall (thn (pk_nil.run pos pins s σ H (fun vs H1 => vs = [] ∧ H1 = H) I ⟨rfl, rfl⟩) ?_) hpl) hdb
  rintro ws s1 ⟨zs, H1, I1, rz, rfl, rfl⟩
  cases rz
  refine ⟨I1.kIn, ?_⟩
  show wpAny _ _ (call (.ref C) []) _ _ _
  obtain ⟨bm, N, nm, qn, bs, hdct, sn, sub, ab, col, dd, k0, k1, k2, k3, k5, mN, hC, hN, hni, OT⟩ := exc_obj I1.kIn q
  refine wpAny_call_exc_subT PySem.F.excBase_ValueError OT hC hN hni (fun h' a hm => ?_) (Nat.zero_le _)
  have gone : H1 a = none := I1.hok.gone hm.new
  obtain ⟨t, at_, _, _⟩ := hm.there
  exact ⟨.ref a, upd H1 a (exo a C none), I1.laidN hm.keeps hm.new gone (exo_ok at_), rfl, h a gone⟩
end
end
end Hw

namespace Hw
open PySem PySem.Spec PyProof.Rows L2
section
variable {K : PySem.W.Frag} {x qual : Str} {params : Arguments} {body : List Stmt} {scope : Scope} {f : Addr} {fd : FuncData}
/-- what is bound by the three ways to call such an __init__ -/
structure IniB (K : PySem.W.Frag) (fd : FuncData) : Prop where
  b2 : ∀ (s : Shared) (e u : Value), K.In s.heap → BindsTo s fd ⟨[e, u], []⟩ ((["self", "value"] : List Str).zip [e, u])
  b1 : ∀ (s : Shared) (e : Value), K.In s.heap → BindsTo s fd ⟨[e], []⟩ ((["self", "value"] : List Str).zip [e, .none])
  bk : ∀ (s : Shared) (e u : Value), K.In s.heap → BindsTo s fd ⟨[e], [("value", u)]⟩ ((["self", "value"] : List Str).zip [e, u])
theorem iniB_of (F : FunD K x qual params body scope [.non] [] f fd)
    (h2 : ∀ (T : Addr) (kV doc pm : Value) (an : Option Addr) (cdv ct : Value) (e u n : Value), ∃ k, bindArgs (PySem.W.fnOf x qual params body scope (.ref T) kV doc pm an cdv ct) ⟨[e, u], []⟩ = seqItems? (.ref T) >>= k ∧ k (some #[n]) = pure ((["self", "value"] : List Str).zip [e, u]))
    (h1 : ∀ (T : Addr) (kV doc pm : Value) (an : Option Addr) (cdv ct : Value) (e n : Value), ∃ k, bindArgs (PySem.W.fnOf x qual params body scope (.ref T) kV doc pm an cdv ct) ⟨[e], []⟩ = seqItems? (.ref T) >>= k ∧ k (some #[n]) = pure ((["self", "value"] : List Str).zip [e, n]))
    (hk : ∀ (T : Addr) (kV doc pm : Value) (an : Option Addr) (cdv ct : Value) (e u n : Value), ∃ k, bindArgs (PySem.W.fnOf x qual params body scope (.ref T) kV doc pm an cdv ct) ⟨[e], [("value", u)]⟩ = seqItems? (.ref T) >>= k ∧ k (some #[n]) = pure ((["self", "value"] : List Str).zip [e, u])) : IniB K fd := by
  refine ⟨?_, ?_, ?_⟩
  · obtain ⟨its, B⟩ := F.kbindsD 2 [] (fun us _ _ => us) (by decide) (fun r _ _ => r) fun T kV doc pm an cdv ct us its ws l1 l2 l3 => match us, its, ws, l1, l2, l3 with | [e, u], [n], [], _, _, _ => h2 T kV doc pm an cdv ct e u n
    exact fun s e u hK => B.to s [e, u] [] hK rfl rfl
  · obtain ⟨its, B⟩ := F.kbindsD 1 [] (fun us its _ => us ++ its) (by decide) (fun r r' _ => r.append r') fun T kV doc pm an cdv ct us its ws l1 l2 l3 => match us, its, ws, l1, l2, l3 with | [e], [n], [], _, _, _ => h1 T kV doc pm an cdv ct e n
    intro s e hK
    have b := B.to s [e] [] hK rfl rfl
    have r := B.rel (vs := [.non]) (us := [.none]) (zs := []) (ws := []) (.cons rfl .nil) .nil
    have e1 : its = [.none] := by
      cases r with
      | cons _ r =>
        cases r with
        | cons a r =>
          cases r
          cases (show _ = Value.none from a)
          rfl
    rw [e1] at b
    exact b
  · obtain ⟨its, B⟩ := F.kbindsD 1 ["value"] (fun us _ ws => us ++ ws) (by decide) (fun r _ r' => r.append r') fun T kV doc pm an cdv ct us its ws l1 l2 l3 => match us, its, ws, l1, l2, l3 with | [e], [n], [u], _, _, _ => hk T kV doc pm an cdv ct e u n
    exact fun s e u hK => B.to s [e] [u] hK rfl rfl
end
end Hw

set_option Elab.async false
set_option linter.all false
set_option maxRecDepth 100000
set_option maxHeartbeats 4000000
namespace Hw
open PySem PySem.Spec PyProof.Rows L2
section
variable {X : Cx}
/-- x == y of data, or of a dict of one int with itself -/
def rEqS : R2 := fun x y H Q => rEqT x y H Q ∨ ∃ (a : Addr) (k : Str) (i : Int), x = .ref a ∧ y = .ref a ∧ H a = some (.dK [(.inr k, .int i)]) ∧ Q (.bl true) H
theorem op_eqS (hu : X.A.units + 64 < cLine) : OpR X (compareOp .Eq) rEqS := by
  intro pins s σ H x y v u Q I rx ry h
  rcases h with h | ⟨a, k, i, rfl, rfl, e, q⟩
  · exact op_eqT hu pins s σ H x y v u Q I rx ry h
  · cases (show v = Value.ref a from rx)
    cases (show u = Value.ref a from ry)
    obtain ⟨_, ns, vs, kv, dd⟩ := dk_of I.hok e
    cases kv with
    | @cons _ q1 _ _ h1 h2 =>
    cases h2
    obtain ⟨kk, vv⟩ := q1
    obtain ⟨e1, e2⟩ := h1
    obtain ⟨t, ht⟩ := e2
    have ht : vv = Value.int i t := ht
    subst ht
    refine PySem.W.keq_eq (r := true) ns ns dd dd (by omega) (fun _ => ?_) ?_
    · have hit := PySem.W.KeqHits.hit (A := X.A.in1) (s := s) (kb := [(kk, Value.int i t)]) (k := kk) (v := Value.int i t) (y := Value.int i t) (r := []) (by unfold valueAt; simp) (SeqAt.EqAt.int_int i t i t) .nil
      rw [show ((i == i) && true) = true by simp] at hit
      exact hit
    · exact ⟨.bl true, H, I, rfl, q⟩
/-- a short text n times -/
def rMulS : R2 := fun x y H Q => ∃ (z : Str) (n : Int), x = .str z ∧ y = .int n ∧ 0 ≤ n ∧ n ≤ 100 ∧ z.length ≤ 100 ∧ Q (.str (Txt.mul z n)) H
theorem op_mulS : OpR X (binaryOp .Mult) rMulS := by
  intro pins s σ H x y v u Q I rx ry h
  obtain ⟨z, n, rfl, rfl, n0, n1, hz, q⟩ := h
  obtain ⟨t, rfl⟩ := rx
  obtain ⟨t2, rfl⟩ := ry
  refine SB.mul ⟨?_, fun h1 _ => ?_, fun h1 _ => ?_⟩ fun t' k => ⟨.str _, H, I.tok _, ⟨_, rfl⟩, q⟩
  · simp only [Bool.or_eq_false_iff, decide_eq_false_iff_not]
    exact ⟨by omega, by omega⟩
  · have h2 : (100 : Int) ≤ (2 ^ 63 - 1) / n := Int.le_ediv_of_mul_le (by omega) (by omega)
    omega
  · have h2 : z.length * n.toNat ≤ 100 * 100 := Nat.mul_le_mul hz (by omega)
    show decide (z.length * n.toNat > sizeLine) = false
    rw [sizeLine_eq]
    exact decide_eq_false (by omega)
/-! ### lists of exceptions that were made -/
/-- x is an exception of the class at C that keeps y -/
def MX (y : V) (C : Addr) (x : V) (H : Hp) : Prop := ∃ a d, x = .ref a ∧ H a = some (exo a C (some d)) ∧ H d = some (exd d [("value", y)])
inductive MXs (y : V) (H : Hp) : List Addr → List V → Prop
  | nil : MXs y H [] []
  | cons {C : Addr} {Cs : List Addr} {x : V} {xs : List V} : MX y C x H → MXs y H Cs xs → MXs y H (C :: Cs) (x :: xs)
def ML (y : V) (Cs : List Addr) : Fi := fun x H => ∃ p xs, x = .ref p ∧ H p = some (.lst xs) ∧ MXs y H Cs xs
theorem MX.to {y : V} {C : Addr} {x : V} {H H' : Hp} (m : MX y C x H) (e : Same H H') : MX y C x H' := by
  obtain ⟨a, d, rfl, h1, h2⟩ := m
  exact ⟨a, d, rfl, e _ _ h1, e _ _ h2⟩
theorem MXs.to {y : V} {H H' : Hp} : ∀ {Cs : List Addr} {xs : List V}, MXs y H Cs xs → Same H H' → MXs y H' Cs xs
  | _, _, .nil, _ => .nil
  | _, _, .cons m r, e => .cons (m.to e) (r.to e)
theorem MXs.app {y : V} {H : Hp} : ∀ {Cs Ds : List Addr} {xs ys : List V}, MXs y H Cs xs → MXs y H Ds ys → MXs y H (Cs ++ Ds) (xs ++ ys)
  | _, _, _, _, .nil, k => k
  | _, _, _, _, .cons m r, k => .cons m (r.app k)
theorem MXs.len {y : V} {H : Hp} : ∀ {Cs : List Addr} {xs : List V}, MXs y H Cs xs → xs.length = Cs.length
  | _, _, .nil => rfl
  | _, _, .cons _ r => by rw [List.length_cons, List.length_cons, r.len]
theorem MXs.get {y : V} {H : Hp} : ∀ {Cs : List Addr} {xs : List V}, MXs y H Cs xs → ∀ (i : Nat) (x : V), xs[i]? = some x → ∃ C, Cs[i]? = some C ∧ MX y C x H
  | _, _, .nil, i, x, h => by simp at h
  | _, _, .cons m r, 0, x, h => by
    have e := Option.some.inj (show some _ = some x from h)
    subst e
    exact ⟨_, rfl, m⟩
  | _, _, .cons _ r, i + 1, x, h => r.get i x h
section
variable {y : V} {C : Addr} {Cs Ds : List Addr} {σ : L2.St} {te tf : TE} {ta : TA} {i : Nat}
theorem Ev.mx1 (h : σ[i]? = some (some y)) : Ev Tr (MX y C) (tX1 C (tCons (tVar i) tNil)) σ := fun H Q _ q => ⟨y, h, y, rfl, fun a d H' _ _ _ e h1 h2 => q _ H' e ⟨a, d, rfl, h1, h2⟩⟩
theorem Ev.mx0 : Ev Tr (MX y C) (tX0 C y) σ := fun H Q _ q => fun a d H' _ _ _ e h1 h2 => q _ H' e ⟨a, d, rfl, h1, h2⟩
theorem Eva.mnil : Eva Tr (fun xs H => MXs y H [] xs) tNil σ := fun H Q _ q => q _ H (Same.refl H) .nil
theorem Eva.mcons (h : Ev Tr (MX y C) te σ) (r : Eva Tr (fun xs H => MXs y H Cs xs) ta σ) : Eva Tr (fun xs H => MXs y H (C :: Cs) xs) (tCons te ta) σ := fun H Q s q =>
  h H _ s fun x H1 e1 p1 => r H1 _ s fun xs H2 e2 p2 => q _ H2 (e1.trans e2) (.cons (p1.to e2) p2)
theorem Ev.mlst (h : Eva Tr (fun xs H => MXs y H Cs xs) ta σ) (hn : Cs.length ≤ 1000) : Ev Tr (ML y Cs) (tLst ta) σ := fun H Q s q => h H _ s fun xs H1 e1 p1 => by
  have p1 : MXs y H1 Cs xs := p1
  refine ⟨by rw [p1.len, sizeLine_eq]; omega, fun p hp => ?_⟩
  have e2 := same_new' (o := .lst xs) hp
  exact q _ _ (e1.trans e2) ⟨p, xs, rfl, upd_same, p1.to e2⟩
theorem ML.to {x : V} {H H' : Hp} (m : ML y Cs x H) (e : Same H H') : ML y Cs x H' := by
  obtain ⟨p, xs, rfl, h1, h2⟩ := m
  exact ⟨p, xs, rfl, e _ _ h1, h2.to e⟩
theorem Ev.mvar {H0 : Hp} {S : Hp → Prop} {x : V} (h : σ[i]? = some (some x)) (m : ∀ H, S H → ML y Cs x H) : Ev S (ML y Cs) (tVar i) σ := fun H Q s q => ⟨x, h, q x H (Same.refl H) (m H s)⟩
/-- found + [..] -/
theorem mcat {x : V} {H : Hp} {Q : VK} (m : ML y Cs x H) (hx : σ[i]? = some (some x)) (h : Ev Tr (ML y Ds) te σ) (hn : Cs.length + Ds.length ≤ 1000) (q : ∀ x H', Same H H' → ML y (Cs ++ Ds) x H' → Q x H') : tOp rCat (tVar i) te σ H Q := by
  refine ⟨x, hx, h H _ trivial fun z H1 e1 mz => ?_⟩
  obtain ⟨p, xs, rfl, h1, h2⟩ := m.to e1
  obtain ⟨p', ys, rfl, k1, k2⟩ := mz
  have l1 := h2.len
  have l2 := k2.len
  refine ⟨p, p', xs, ys, rfl, rfl, h1, k1, by rw [sizeLine_eq]; omega, fun r hr => ?_⟩
  have e2 := same_new' (o := .lst (xs ++ ys)) hr
  exact q _ _ (e1.trans e2) ⟨r, _, rfl, upd_same, (h2.app k2).to e2⟩
end
end
end Hw

/-! ### the head's facts with a further check -/
namespace Hw
open PySem PySem.Spec PyProof.Rows L2
def obsX (fa : List He.Fa) (fn : List He.DefD) (chk : PySem.W.Frag → Bool) (K : PySem.W.Frag) : He.AlD := ((He.obsD fa fn K).1 && chk K, (He.obsD fa fn K).2)
def SaysX (fa : List He.Fa) (fn : List He.DefD) (chk : PySem.W.Frag → Bool) (K : PySem.W.Frag) : Prop := obsX fa fn chk K = He.valD fn
def obsXG (n : Nat) (fa : List He.Fa) (fn : List He.DefD) (chk : PySem.W.Frag → Bool) (g : Addr → Option Obj) : He.AlD := obsX fa fn chk (He.frG g (He.asD g n))
def hookX (n : Nat) (fa : List He.Fa) (fn : List He.DefD) (chk : PySem.W.Frag → Bool) : PySem.W.Hook where
  α := He.AlD
  obs := fun s => obsXG n fa fn chk s.heap.get?
  val := fun _ => He.valD fn
  says := fun _ h => ∃ K : PySem.W.Frag, K.In h ∧ SaysX fa fn chk K
  of := fun _ _ e => ⟨_, He.frG_in, e⟩
  keeps := fun _ _ _ ⟨K, hK, c⟩ k => ⟨K, PySem.W.Frag.In.keeps hK k, c⟩
theorem obsXG_eq {n : Nat} {fa : List He.Fa} {fn : List He.DefD} {chk : PySem.W.Frag → Bool} {g : Addr → Option Obj} {s : Shared} (h : ∀ a, g a = s.heap.get? a) : obsXG n fa fn chk g = (hookX n fa fn chk).obs s := by
  rw [show g = s.heap.get? from funext h]
  rfl
theorem SaysX.says {fa : List He.Fa} {fn : List He.DefD} {chk : PySem.W.Frag → Bool} {K : PySem.W.Frag} (h : SaysX fa fn chk K) : He.SaysD fa fn K ∧ chk K = true := by
  have e1 : ((He.obsD fa fn K).1 && chk K) = true := congrArg Prod.fst (show obsX fa fn chk K = He.valD fn from h)
  have e2 : (obsX fa fn chk K).2 = (He.valD fn).2 := congrArg Prod.snd (show obsX fa fn chk K = He.valD fn from h)
  obtain ⟨a, b⟩ := Bool.and_eq_true_iff.mp e1
  exact ⟨Prod.ext a e2, b⟩
end Hw

set_option Elab.async false
set_option linter.all false
set_option maxRecDepth 100000
set_option maxHeartbeats 4000000
/-! tables of the module: texts to tuples of texts; their get; the head's facts of them -/
namespace Hw
open PySem PySem.Spec PyProof.Rows L2
/-- at a: a written table -/
structure KTabs (K : PySem.W.Frag) (w : World) (a : Addr) (tab : List (Str × List Str)) : Prop where
  dict : ∃ es n, KDict K w a es n
  at_ : ∀ z, (tab.lookup z = none ∧ PySem.W.nsIn K a z = some none) ∨ ∃ ks p, tab.lookup z = some ks ∧ PySem.W.nsIn K a z = some (some (.ref p)) ∧ ∀ H, SqT K H p (ks.map V.str)
def tKGet (K : PySem.W.Frag) (a : Addr) (te : TE) : TE := fun σ H Q => te σ H fun y H1 => ∃ z r, y = .str z ∧ PySem.W.nsIn K a z = some r ∧ (r = none → Q .non H1) ∧ ∀ p, r = some (.ref p) → Q (.ref p) H1
section
variable {X : Cx} {o e : Expr} {apos cpos : Pos} {te : TE} {K : PySem.W.Frag} {a : Addr}
/-- T.get(e), T a written table -/
theorem pe_kget {tab : List (Str × List Str)} (hK : X.K = K) {w : World} (hw : X.w = w) (T : KTabs K w a tab) (ho : PE X o (tC (.ref a))) (he : PE X e te) (m : M1 X o "get" apos e cpos) : PE X (.Call (.Attribute o "get" apos) [e] [] cpos) (tKGet K a te) := by
  subst hK
  subst hw
  obtain ⟨es, n, D⟩ := T.dict
  refine ⟨fun pins s σ H Q I h => ?_⟩
  refine wpAny_Call_method m.base m.few m.line PySem.F.plainAttrs_dict PySem.F.slot_dict_get PySem.F.type_dict_get (thn (ho.run pins s σ H (fun x H1 => x = .ref a ∧ te σ H1 fun y H2 => ∃ z r, y = .str z ∧ PySem.W.nsIn X.K a z = some r ∧ (r = none → Q .non H2) ∧ ∀ p, r = some (.ref p) → Q (.ref p) H2) I ⟨rfl, h⟩) fun u s1 ⟨x, H1, I1, rx, ex, q1⟩ => ?_)
  subst ex
  obtain rfl : u = Value.ref a := rx
  refine ⟨kd_type D I1, fun b eb => by cases eb; exact ⟨_, I1.kIn _ _ D.at_, rfl⟩, ?_⟩
  rw [m.trees]
  refine Calls.callWith_builtin rfl (Calls.evalArgs_plain (Calls.spliced_cons (thn (he.run pins s1 σ H1 _ I1 q1) fun iv s2 ⟨y, H2, I2, ry, z, r, ey, hz, q2, q3⟩ => Calls.spliced_nil ?_)))
  subst ey
  obtain ⟨t, rfl⟩ := ry
  have hm := PySem.W.mapOf_K (prog := X.prog) (w := X.w) I2.kIn D.at_ D.lit
  refine call_meetsIn PySem.F.slot_dict_get hm.typeIs PySem.F.entry_dict_get (PySem.F.args_dict_get_2 _ _) (meets_dict_get (strKind X.prog X.w) a (PySem.strKind_is X.prog X.w z t) D.low) ⟨_, hm, ?_⟩
  have hf : findBy Value.isStrOf es z = r := PySem.W.find_K D.at_ hz
  have key : EP X pins σ Q (r.getD .none) { s2 with toks := s2.toks + 1 } := by
    rcases T.at_ z with ⟨_, e2⟩ | ⟨ks, p, _, e2, _⟩
    · rw [hz] at e2
      cases e2
      exact ⟨.non, H2, I2.tok _, rfl, q2 rfl⟩
    · rw [hz] at e2
      cases e2
      exact ⟨.ref p, H2, I2.tok _, rfl, q3 p rfl⟩
  rw [← hf] at key
  exact key
end
/-! ### the head tells it -/
def txtOf : Value → Option Str
  | .str x _ => some x
  | _ => none
/-- the tuple of texts at p -/
def tupS (K : PySem.W.Frag) (p : Addr) (ks : List Str) : Bool := match K.lookup p with
  | some ⟨.type c, _, .seq its _, _⟩ => decide (c = "tuple") && (decide (its.size ≤ 1000) && decide (its.toList.map txtOf = ks.map some))
  | _ => false
theorem vals_txt : ∀ {its : List Value} {ks : List Str}, its.map txtOf = ks.map some → Vals (ks.map V.str) its
  | [], [], _ => .nil
  | [], k :: ks, h => by cases h
  | v :: r, [], h => by cases h
  | v :: r, k :: ks, h => by
    have h1 : txtOf v :: r.map txtOf = some k :: ks.map some := h
    injection h1 with h2 h3
    refine .cons ?_ (vals_txt h3)
    cases v <;> first | (cases h2; exact ⟨_, rfl⟩) | cases h2
theorem tupS_ok {K : PySem.W.Frag} {p : Addr} {ks : List Str} (h : tupS K p ks = true) (H : Hp) : SqT K H p (ks.map V.str) := by
  unfold tupS at h
  cases q : K.lookup p with
  | none => rw [q] at h; cases h
  | some o =>
    obtain ⟨oc, od, dt, osl⟩ := o
    rw [q] at h
    cases oc with
    | type c =>
      cases dt with
      | seq its n =>
        have h1 : (decide (c = "tuple") && (decide (its.size ≤ 1000) && decide (its.toList.map txtOf = ks.map some))) = true := h
        obtain ⟨a1, a2⟩ := He.ba h1
        obtain ⟨a3, a4⟩ := He.ba a2
        have e1 := of_decide_eq_true a1
        subst e1
        refine .inr ⟨_, its, n, q, rfl, rfl, ?_, vals_txt (of_decide_eq_true a4)⟩
        have := of_decide_eq_true a3
        rw [sizeLine_eq]; omega
      | _ => cases h
    | _ => cases dt <;> cases h
def refOf : Value → Option Addr
  | .ref p => some p
  | _ => none
/-- the table's values -/
def tabV (K : PySem.W.Frag) (a : Addr) (tab : List (Str × List Str)) : Bool := match K.lookup a with
  | some ⟨_, _, .dict es _, _⟩ => decide (es.toList.length = tab.length) && ((es.toList.zip tab).all fun q => match refOf q.1.val with
    | some p => tupS K p q.2.2
    | none => false)
  | _ => false
theorem ktabs_ok {K : PySem.W.Frag} {w : World} {a : Addr} {tab : List (Str × List Str)} (h1 : He.dicW K a = some (He.keysIn w.params (tab.map (·.1)))) (h2 : tabV K a tab = true) : KTabs K w a tab := by
  have hd := He.dicW_ok h1
  refine ⟨hd, fun z => ?_⟩
  obtain ⟨es, n, D⟩ := hd
  have hl := D.at_
  have hk : es.toList.map He.keyOf = He.keysIn w.params (tab.map (·.1)) := by
    unfold He.dicW at h1
    rw [hl] at h1
    have h1 : (match decide ("dict" = "dict") && (Array.isEmpty (#[] : Array (Str × Option Value)) && !(a == sysModules)) with | true => some (es.toList.map He.keyOf) | false => none) = _ := h1
    rw [D.low] at h1
    exact Option.some.inj h1
  unfold tabV at h2
  rw [hl] at h2
  have h2 : (decide (es.toList.length = tab.length) && ((es.toList.zip tab).all fun q => match refOf q.1.val with | some p => tupS K p q.2.2 | none => false)) = true := h2
  obtain ⟨_, h2⟩ := He.ba h2
  have key : ∀ (es : List DictEntry) (tab : List (Str × List Str)), es.map He.keyOf = He.keysIn w.params (tab.map (·.1)) → ((es.zip tab).all fun q => match refOf q.1.val with | some p => tupS K p q.2.2 | none => false) = true →
      (es.any (·.refKey) = false) ∧ ((tab.lookup z = none ∧ es.find? (·.key.isStr z) = none) ∨ ∃ ks p e, tab.lookup z = some ks ∧ es.find? (·.key.isStr z) = some e ∧ e.val = .ref p ∧ ∀ H, SqT K H p (ks.map V.str)) := by
    intro es
    induction es with
    | nil =>
      intro tab e1 _
      cases tab with
      | nil => exact ⟨rfl, .inl ⟨rfl, rfl⟩⟩
      | cons => cases e1
    | cons e r ih =>
      intro tab e1 e2
      cases tab with
      | nil => cases e1
      | cons t tr =>
        have e1 : He.keyOf e :: r.map He.keyOf = some (t.1, PyData.keyHash w.params t.1) :: He.keysIn w.params (tr.map (·.1)) := e1
        injection e1 with e3 e4
        rw [List.zip_cons_cons, List.all_cons] at e2
        obtain ⟨e5, e6⟩ := He.ba e2
        obtain ⟨i1, i2⟩ := ih tr e4 e6
        have ek : ∃ tk, e.key = .str t.1 tk := by
          unfold He.keyOf at e3
          split at e3
          · rename_i x tk hx
            have := Option.some.inj e3
            rw [hx, (Prod.mk.inj this).1]
            exact ⟨tk, rfl⟩
          · cases e3
        obtain ⟨tk, ek⟩ := ek
        have rk : e.refKey = false := by unfold DictEntry.refKey; rw [ek]
        refine ⟨by rw [List.any_cons, rk, i1]; rfl, ?_⟩
        by_cases hz : z = t.1
        · refine .inr ?_
          cases hr : refOf e.val with
          | none => rw [hr] at e5; cases e5
          | some p =>
            rw [hr] at e5
            have ev : e.val = .ref p := by
              cases hv : e.val <;> rw [hv] at hr <;> first | (cases hr; rfl) | cases hr
            refine ⟨t.2, p, e, by rw [List.lookup_cons, show (z == t.1) = true by rw [hz]; exact beq_self_eq_true _], ?_, ev, fun H => tupS_ok e5 H⟩
            rw [List.find?_cons, ek, show Value.isStr (.str t.1 tk) z = true by rw [hz]; unfold Value.isStr; exact beq_self_eq_true _]
        · have n1 : (z == t.1) = false := beq_eq_false_iff_ne.mpr hz
          have n2 : Value.isStr (.str t.1 tk) z = false := by unfold Value.isStr; exact beq_eq_false_iff_ne.mpr fun e => hz e.symm
          rw [List.lookup_cons, n1, List.find?_cons, ek, n2]
          exact i2
  obtain ⟨k1, k2⟩ := key es.toList tab hk h2
  have ns : PySem.W.nsIn K a z = (match es.toList.find? (·.key.isStr z) with | some e => some (some e.val) | none => if es.toList.any (·.refKey) then none else some none) := by
    unfold PySem.W.nsIn
    rw [hl]
    rfl
  rcases k2 with ⟨a1, a2⟩ | ⟨ks, p, e, a1, a2, a3, a4⟩
  · rw [a2, k1] at ns
    exact .inl ⟨a1, ns⟩
  · rw [a2] at ns
    exact .inr ⟨ks, p, a1, by rw [ns, ← a3], a4⟩
/-! ### the hook: facts, a further check, tables -/
abbrev AlP : Type := He.AlD × List (Option (List (Option (Str × Int))))
def obsP (fa : List He.Fa) (fn : List He.DefD) (chk : PySem.W.Frag → Bool) (ts : List He.Tab) (K : PySem.W.Frag) : AlP := (obsX fa fn chk K, ts.map fun t => He.dicW K (t.1 K))
def valP (fn : List He.DefD) (ts : List He.Tab) (w : World) : AlP := (He.valD fn, ts.map fun t => some (He.keysIn w.params t.2))
def obsPG (n : Nat) (fa : List He.Fa) (fn : List He.DefD) (chk : PySem.W.Frag → Bool) (ts : List He.Tab) (g : Addr → Option Obj) : AlP := obsP fa fn chk ts (He.frG g (He.asD g n))
def SaysP (fa : List He.Fa) (fn : List He.DefD) (chk : PySem.W.Frag → Bool) (ts : List He.Tab) (w : World) (K : PySem.W.Frag) : Prop := obsP fa fn chk ts K = valP fn ts w
def hookP (n : Nat) (fa : List He.Fa) (fn : List He.DefD) (chk : PySem.W.Frag → Bool) (ts : List He.Tab) : PySem.W.Hook where
  α := AlP
  obs := fun s => obsPG n fa fn chk ts s.heap.get?
  val := fun w => valP fn ts w
  says := fun w h => ∃ K : PySem.W.Frag, K.In h ∧ SaysP fa fn chk ts w K
  of := fun _ _ e => ⟨_, He.frG_in, e⟩
  keeps := fun _ _ _ ⟨K, hK, c⟩ k => ⟨K, PySem.W.Frag.In.keeps hK k, c⟩
theorem obsPG_eq {n : Nat} {fa : List He.Fa} {fn : List He.DefD} {chk : PySem.W.Frag → Bool} {ts : List He.Tab} {g : Addr → Option Obj} {s : Shared} (h : ∀ a, g a = s.heap.get? a) : obsPG n fa fn chk ts g = (hookP n fa fn chk ts).obs s := by
  rw [show g = s.heap.get? from funext h]
  rfl
theorem SaysP.says {fa : List He.Fa} {fn : List He.DefD} {chk : PySem.W.Frag → Bool} {ts : List He.Tab} {w : World} {K : PySem.W.Frag} (h : SaysP fa fn chk ts w K) : He.SaysD fa fn K ∧ chk K = true ∧ ts.map (fun t => He.dicW K (t.1 K)) = ts.map fun t => some (He.keysIn w.params t.2) := by
  have e1 : obsX fa fn chk K = He.valD fn := congrArg Prod.fst (show obsP fa fn chk ts K = valP fn ts w from h)
  have e2 := congrArg Prod.snd (show obsP fa fn chk ts K = valP fn ts w from h)
  obtain ⟨a, b⟩ := SaysX.says e1
  exact ⟨a, b, e2⟩
/-! ### over pure states -/
section
variable {g : GS} {te ta tb : TE} {KF : PySem.W.Frag} {d : PyData} {ks : List Str} {p : Addr} {z : Str} {a : Addr} {w : World} {tab : List (Str × List Str)}
/-- what get gives: nothing, or the tuple of these texts -/
def IsKT (KF : PySem.W.Frag) (o : Option (List Str)) (s : Sl) : Prop := (o = none ∧ s = .dat .none) ∨ ∃ ks p, o = some ks ∧ s = .con (.ref p) ∧ ∀ H, SqT KF H p (ks.map V.str)
theorem EM.kget {K : Sl → GS → Prop} (T : KTabs KF w a tab) (h : EX te g (.dat (.str z))) (k : ∀ s, IsKT KF (tab.lookup z) s → K s g) : EM (tKGet KF a te) g K := fun H0 σ H Q sat q => by
  refine h.go sat fun x H1 sat1 sm1 hx => ?_
  rcases T.at_ z with ⟨e1, e2⟩ | ⟨ks, p, e1, e2, e3⟩
  · exact ⟨z, none, hold_str hx, e2, fun _ => q _ H1 (.dat .none) g (k _ (.inl ⟨e1, rfl⟩)) rfl sat1 sm1 .non, fun _ e => nomatch e⟩
  · exact ⟨z, some (.ref p), hold_str hx, e2, fun e => (nomatch e), fun p' e => by
      cases e
      exact q _ H1 (.con (.ref p)) g (k _ (.inr ⟨ks, p, e1, rfl, e3⟩)) rfl sat1 sm1 rfl⟩
theorem EX.isNc {v : V} (h : EX ta g (.con v)) (k : EX tb g (.dat .none)) : EX (tOp (fun x y H Q => y = .non ∧ Q (.bl (decide (x = .non))) H) ta tb) g (.dat (.bool (decide (v = .non)))) := h.op k fun H0 σ H x y Q _ a b q => by
  cases (show x = v from a)
  exact ⟨hold_non b, q _ H (Same.refl _) (.bl _)⟩
theorem EX.lenKT (h : EX te g (.con (.ref p))) (hp : ∀ H, SqT KF H p (ks.map V.str)) : EX (tCB (rLenK KF) (tCons te tNil)) g (.dat (.int ks.length)) :=
  EX.cb (EAX.cons h EAX.nil) fun H0 σ H ys Q _ a q => by
    cases a with
    | cons a1 a2 =>
      cases a2
      cases (show _ = V.ref p from a1)
      exact ⟨p, _, rfl, .inr (hp H), by rw [List.length_map]; exact q _ H (Same.refl _) (.int _)⟩
theorem inV_strs (z : Str) : ∀ ks : List Str, inV (.str z) (ks.map V.str) = ks.contains z
  | [] => rfl
  | k :: r => by
    have ih := inV_strs z r
    unfold inV at ih ⊢
    rw [List.map_cons, List.any_cons, ih, List.contains_cons]
    congr 1
    show decide (k = z) = (z == k)
    by_cases e : k = z
    · rw [e]; simp
    · rw [decide_eq_false e]
      exact (beq_eq_false_iff_ne.mpr fun h => e h.symm).symm
theorem flat_strs (ks : List Str) : (ks.map V.str).all flatV = true := List.all_eq_true.mpr fun v hv => by
  obtain ⟨k, _, rfl⟩ := List.mem_map.mp hv
  rfl
theorem EX.inKT (h : EX ta g (.dat (.str z))) (k : EX tb g (.con (.ref p))) (hp : ∀ H, SqT KF H p (ks.map V.str)) : EX (tOp (rIn KF false) ta tb) g (.dat (.bool (ks.contains z))) := h.op k fun H0 σ H x y Q _ a b q => by
  cases (show y = V.ref p from b)
  rw [hold_str a]
  refine ⟨p, _, rfl, .inr (hp H), rfl, flat_strs ks, ?_⟩
  rw [if_neg (by decide), inV_strs]
  exact q _ H (Same.refl _) (.bl _)
/-- a text in a list, a tuple of texts -/
theorem EX.inDT {ks : List Str} {d : PyData} (h : EX ta g (.dat (.str z))) (k : EX tb g (.dat d)) (hd : d = .list (ks.map .str) ∨ d = .tuple (ks.map .str)) : EX (tOp (rIn KF false) ta tb) g (.dat (.bool (ks.contains z))) := h.op k fun H0 σ H x y Q _ a b q => by
  rw [hold_str a]
  rcases hd with rfl | rfl
  · cases b with
    | lst h1 h2 =>
      rw [strs_of ks h2] at h1
      refine ⟨_, _, rfl, .inl (.inl (.inl (offs_at h1).2)), rfl, flat_strs ks, ?_⟩
      rw [if_neg (by decide), inV_strs]
      exact q _ H (Same.refl _) (.bl _)
  · cases b with
    | tup h1 h2 =>
      rw [strs_of ks h2] at h1
      refine ⟨_, _, rfl, .inr (.inl (.inl (offs_at h1).2)), rfl, flat_strs ks, ?_⟩
      rw [if_neg (by decide), inV_strs]
      exact q _ H (Same.refl _) (.bl _)
theorem EX.notInDT {ks : List Str} {d : PyData} (h : EX ta g (.dat (.str z))) (k : EX tb g (.dat d)) (hd : d = .list (ks.map .str) ∨ d = .tuple (ks.map .str)) : EX (tOp (rIn KF true) ta tb) g (.dat (.bool (!ks.contains z))) := h.op k fun H0 σ H x y Q _ a b q => by
  rw [hold_str a]
  rcases hd with rfl | rfl
  · cases b with
    | lst h1 h2 =>
      rw [strs_of ks h2] at h1
      refine ⟨_, _, rfl, .inl (.inl (.inl (offs_at h1).2)), rfl, flat_strs ks, ?_⟩
      rw [if_pos rfl, inV_strs]
      exact q _ H (Same.refl _) (.bl _)
  · cases b with
    | tup h1 h2 =>
      rw [strs_of ks h2] at h1
      refine ⟨_, _, rfl, .inr (.inl (.inl (offs_at h1).2)), rfl, flat_strs ks, ?_⟩
      rw [if_pos rfl, inV_strs]
      exact q _ H (Same.refl _) (.bl _)
/-- a written tuple of texts and a tuple of data, side by side -/
theorem IT.zipKT {t : TA} {ds : List PyData} (h : EAX t g [.con (.ref p), .dat (.tuple ds)]) (hp : ∀ H, SqT KF H p (ks.map V.str)) : IT (RZ.iZipA KF t) g (zipS (ks.map .str) ds) := fun H0 σ H R sat q => by
  refine h H0 σ H _ sat fun xs H1 ss g1 k _ sat1 sm1 hx => ?_
  obtain ⟨rfl, rfl⟩ := k
  cases hx with
  | cons a1 a2 =>
    cases a2 with
    | cons a2 a3 =>
      cases a3
      cases (show _ = V.ref p from a1)
      cases a2 with
      | @tup b vs _ b1 b2 =>
        refine ⟨p, b, _, _, rfl, .inr ⟨hp H1, .inl (.inl (offs_at b1).2), q _ H1 sat1 sm1 ?_⟩⟩
        intro l2 H2 sm dom
        have h3 := sm _ _ b1
        have h4 := HoldA.of (b2.to sm)
        have sq : SqT KF H2 p (ks.map V.str) := hp H2
        have sq2 : SqT KF H2 b vs := .inl (.inl (offs_at h3).2)
        refine ⟨fun i s hs => ?_, _, vs, sq, sq2, ?_⟩
        · obtain ⟨r, hr, rfl⟩ := getElem?_map_some hs
          obtain ⟨hi1, hi2⟩ := List.getElem?_zip_eq_some.mp hr
          obtain ⟨k1, hk1, ek1⟩ := getElem?_map_some hi1
          obtain ⟨y, hy, hh⟩ := h4.get (show (ds.map Sl.dat)[i]? = some (.dat r.2) by rw [List.getElem?_map, hi2]; rfl)
          have hx1 : (ks.map V.str)[i]? = some (V.str k1) := by rw [List.getElem?_map, hk1]; rfl
          refine ⟨⟨_, vs, _, y, sq, sq2, hx1, hy⟩, ?_⟩
          rintro x H3 ⟨T, y', z', rfl, hT, rfl, q1, q2⟩
          have e1 := q1 _ sq
          have e2 := q2 vs sq2
          rw [hx1] at e1
          rw [hy] at e2
          cases e1; cases e2
          have sm3 := same_new' (o := .tup [V.str k1, y]) hT
          have nT : T ∉ l2 := fun w => by
            obtain ⟨o, ho⟩ := dom T w
            rw [hT] at ho; cases ho
          refine ⟨sm3, .tup (offs_of nT upd_same) (.cons ?_ (.cons ?_ .nil))⟩
          · rw [ek1]; exact .str _
          · exact Dt.to hh (offs_mono sm3)
        · show (ks.map V.str).length ≤ (zipS (ks.map PyData.str) ds).length ∨ vs.length ≤ (zipS (ks.map PyData.str) ds).length
          unfold zipS
          rw [List.length_map, List.length_map, List.length_zip, List.length_map, b2.len]
          omega
end
end Hw

set_option Elab.async false
set_option linter.all false
set_option maxRecDepth 100000
set_option maxHeartbeats 4000000
/-! what is a name, an expression: told of data (pure) -/
namespace Hw
open PySem PySem.Spec PyProof.Rows L2
def lettersC : List Nat := (("abcdefghijklmnopqrstuvwxyz" : Str)).cps.toList
def figuresC : List Nat := (("0123456789" : Str)).cps.toList
def noNames : List Str := ["all", "and", "bit", "iff", "not", "or", "some", "then", "told", "top", "under"]
/-- how many letters stand at the beginning -/
def headN (l : List Nat) : Nat := (l.takeWhile fun c => decide (c ∈ lettersC)).length
/-- what may stand behind them: figures, no nought ahead -/
def endB (l : List Nat) : Bool := l.isEmpty || (decide (l.length ≤ 4) && l.all (fun c => decide (c ∈ figuresC)) && (decide (l = [48]) || decide (l.head? ≠ some 48)))
def nameB (z : Str) : Bool := !noNames.contains z && (decide (1 ≤ headN z.cps.toList) && decide (headN z.cps.toList ≤ 6) && endB (z.cps.toList.drop (headN z.cps.toList)))
def wholeW : List Str := ["both", "either", "unlike", "down"]
def wholeB (d : PyData) : Bool := isInt d && !isBool d
def nameD : PyData → Bool
  | .str z => nameB z
  | _ => false
def firstW : PyData → Str
  | .tuple (.str w :: _) => w
  | _ => ""
def exprT : List (Str × List Str) := [("plus", ["expression", "expression"]), ("minus", ["expression", "expression"]), ("times", ["whole", "expression"]), ("both", ["expression", "expression"]), ("either", ["expression", "expression"]), ("unlike", ["expression", "expression"]), ("turned", ["expression"]), ("up", ["count", "expression"]), ("down", ["count", "expression"])]
def countB (d : PyData) : Bool := match d with
  | .int i => decide (0 ≤ i)
  | _ => false
/-- expressions, nested at most n deep -/
def exN : Nat → PyData → Bool
  | _, .int _ => true
  | _, .str z => nameB z
  | n + 1, .tuple (w :: ps) => match exprT.lookup (firstW (.tuple (w :: ps))) with
    | none => false
    | some ks => decide (ps.length = ks.length) && (ks.zip ps).all fun q => if q.1 = "expression" then exN n q.2 else if q.1 = "whole" then wholeB q.2 else countB q.2
  | _, _ => false
/-- texts not too long, data not too deep -/
def okN : Nat → PyData → Bool
  | _, .str z => decide (z.length ≤ 1000000)
  | n + 1, .tuple ds => decide (ds.length ≤ 1000000) && ds.all (okN n)
  | n + 1, .list ds => decide (ds.length ≤ 1000000) && ds.all (okN n)
  | 0, .tuple _ => false
  | 0, .list _ => false
  | _, .dict _ => false
  | _, _ => true
end Hw

set_option Elab.async false
set_option linter.all false
set_option maxRecDepth 100000
set_option maxHeartbeats 4000000
/-! xs[i] += n; xs.index(x) of data -/
namespace Hw
open PySem PySem.Spec PyProof.Rows L2
section
variable {X : Cx} {K : PySem.W.Frag}
theorem ix_seqK (h : X.K = K) : IxR X (rIx K) := by subst h; exact ix_seq
/-- xs[i], i from nought on, by values -/
def rGetN (K : PySem.W.Frag) : V → V → Hp → VK → Prop := fun x y H Q => ∃ (p : Addr) (xs : List V) (j : Nat) (v : V), x = .ref p ∧ y = .int j ∧ SqL K H p xs ∧ xs[j]? = some v ∧ Q v H
theorem pget_list (h : X.K = K) : PGet X (rGetN K) := by
  subst h
  intro pins s σ H x y v u Q I rx ry h
  obtain ⟨p, xs, j, z, rfl, rfl, hq, he, q⟩ := h
  cases rx
  obtain ⟨t, rfl⟩ := ry
  obtain ⟨its, r, pl, hz⟩ := I.list hq
  obtain ⟨w, ew, rw'⟩ := r.get he
  have hl := r.length
  have hj := (List.getElem?_eq_some_iff.mp he).1
  have hn := line63
  exact wpAny_getItem_list pl.isList (by omega) (by omega) (by simpa using ew) ⟨z, H, I, rw', q⟩
/-- l.index(x): the first place of an equal one -/
def rIndexT : V → List V → Hp → VK → Prop := fun x xs H Q => ∃ (a : Addr) (vs : List V) (y : V) (d : PyData) (ds : List PyData) (j : Nat) (z : PyData), x = V.ref a ∧ xs = [y] ∧ H a = some (.lst vs) ∧ DtAll H vs ds ∧ Dt H y d ∧
  SeqAt.shaped (.list ds) = true ∧ SeqAt.shaped d = true ∧ ds[j]? = some z ∧ PyData.eqv z d = true ∧ (∀ (m : Nat) (z' : PyData), m < j → ds[m]? = some z' → PyData.eqv z' d = false) ∧ Q (.int (j : Nat)) H
theorem mt_indexT (hu : X.A.units + 65 < cLine) : MtR X "list.index" rIndexT := by
  intro pins s σ H x xs v us Q I rx rxs h
  obtain ⟨a, vs, y, d, ds, j, z, rfl, rfl, hs, ha, hy, sl, sd, hz, hzj, hno, q⟩ := h
  cases rx
  cases rxs with
  | cons ry rt =>
    rename_i uy ut
    cases rt
    obtain ⟨bs, r1, _⟩ := Dt.reads I d y uy hy ry
    have hxs : PyData.canLayAll0 ds = true := SeqAt.canLay_of_shaped sl
    have hroom : X.A.units + 1 + min (PyData.depthAll ds) d.depth < cLine := PyProof.Rows.room_in_shaped sd hu
    obtain ⟨its, rv, ⟨⟨cls, dd, data, sls⟩, n, ho, hc, hdn, hdt⟩, hlen⟩ := I.list (show SqL X.K H a vs from .inl (.inl hs))
    simp only at hc hdt
    subst hc hdt
    obtain ⟨as, h4⟩ := Dt.readsAll I ds _ its ha rv
    have hn : its.length = ds.length := SeqAt.ReadsAll.length ds its as h4
    have hmap : its.map (SeqAt.readOf s.heap) = ds := SeqAt.readsAll_map ds its as hxs h4
    have hvl := rv.length
    have hsl := sizeLine_eq
    obtain ⟨hjd, _⟩ := List.getElem?_eq_some_iff.mp hz
    have hjl : j < its.length := by omega
    have hj : j < its.toArray.size := by simpa using hjl
    have at_ : ∀ (m : Nat) (hm : m < its.toArray.size) (z' : PyData), ds[m]? = some z' → SeqAt.readOf s.heap its.toArray[m] = z' := by
      intro m hm z' hz'
      have hml : m < its.length := by simpa using hm
      rw [← hmap, List.getElem?_map, List.getElem?_eq_getElem hml] at hz'
      have e1 : SeqAt.readOf s.heap its[m] = z' := Option.some.inj (show some (SeqAt.readOf s.heap its[m]) = some z' from hz')
      simpa using e1
    refine call_meets PySem.F.slot_list_index ⟨_, ho, rfl⟩ PySem.F.entry_list_index (PySem.F.args_list_index_2 _ _)
      (SeqAt.list_indexAt a its.toArray n dd sls uy (fun u => PyData.eqv (SeqAt.readOf s.heap u) d) j hj (by omega) ?_ ?_) ⟨ho, SeqAt.items_eqAt (vs := its.toArray) (show ReadsAll s.heap its.toArray.toList ds as from h4) r1 hxs (SeqAt.canLay_of_shaped sd) hroom, ?_⟩
    · show PyData.eqv (SeqAt.readOf s.heap its.toArray[j]) d = true
      rw [at_ j hj z hz]
      exact hzj
    · intro m hm hmj
      have hmd : m < ds.length := by omega
      have hz' : ds[m]? = some ds[m] := List.getElem?_eq_getElem hmd
      show PyData.eqv (SeqAt.readOf s.heap its.toArray[m]) d = false
      rw [at_ m hm _ hz']
      exact hno m _ hmj hz'
    · exact ⟨.int (j : Nat), H, I.tok _, ⟨_, rfl⟩, q⟩
end
section
variable {g : GS} {te ta tb to ti : TE} {KF : PySem.W.Frag} {d : PyData} {ds : List PyData} {a : Addr} {n j : Nat} {O : Out} {i : Int}
/-- x in xs, xs one's own -/
theorem EX.inTO (h : EX ta g (.dat d)) (k : EX tb g (.con (.ref a))) (h0 : g.ow[n]? = some (a, .lst (ds.map Sl.dat))) (h1 : SeqAt.shaped d = true) (h2 : SeqAt.shaped (.list ds) = true) : EX (tOp rInT ta tb) g (.dat (.bool (ds.any fun z => PyData.eqv z d))) := h.op k fun H0 σ H x y Q sat a1 b q => by
  cases (show y = V.ref a from b)
  obtain ⟨vs, h3, h4⟩ := sat.ow _ (List.mem_of_getElem? h0)
  exact ⟨d, ds, Dt.on' a1, .lst h3 (h4.dats.to offs_same), h1, h2, q _ H (Same.refl _) (.bl _)⟩
/-- xs.index(x), xs one's own -/
theorem EX.indexO {z : PyData} (k : EX to g (.con (.ref a))) (h : EX ta g (.dat d)) (h0 : g.ow[n]? = some (a, .lst (ds.map Sl.dat))) (h1 : SeqAt.shaped d = true) (h2 : SeqAt.shaped (.list ds) = true) (hz : ds[j]? = some z) (hzj : PyData.eqv z d = true)
    (hno : ∀ (m : Nat) (z' : PyData), m < j → ds[m]? = some z' → PyData.eqv z' d = false) : EX (tBM KF "list" rIndexT to (tCons ta tNil)) g (.dat (.int j)) := EX.of fun H0 σ H Q sat q =>
  k.go sat fun x H1 sat1 sm1 hx => by
    cases (show x = V.ref a from hx)
    obtain ⟨vs, h3, h4⟩ := sat1.ow _ (List.mem_of_getElem? h0)
    refine ⟨.inl ⟨rfl, vs, .inl (.inl h3)⟩, ?_⟩
    refine EX.go h (Q := fun y H2 => rIndexT (V.ref a) [y] H2 Q) sat1 fun y H2 sat2 sm2 hy => ?_
    obtain ⟨ws, h5, h6⟩ := sat2.ow _ (List.mem_of_getElem? h0)
    exact ⟨a, ws, y, d, ds, j, z, rfl, rfl, h5, h6.dats.to offs_same, Dt.on' hy, h2, h1, hz, hzj, hno, q _ H2 sat2 (sm1.trans sm2) (.int _)⟩
/-- xs.index(x), xs a list of data -/
theorem EX.indexT {z : PyData} (k : EX to g (.dat (.list ds))) (h : EX ta g (.dat d)) (h1 : SeqAt.shaped d = true) (h2 : SeqAt.shaped (.list ds) = true) (hz : ds[j]? = some z) (hzj : PyData.eqv z d = true)
    (hno : ∀ (m : Nat) (z' : PyData), m < j → ds[m]? = some z' → PyData.eqv z' d = false) : EX (tBM KF "list" rIndexT to (tCons ta tNil)) g (.dat (.int j)) := EX.of fun H0 σ H Q sat q =>
  k.go sat fun x H1 sat1 sm1 hx => by
    cases hx with
    | @lst a vs _ h3 h4 =>
      refine ⟨.inl ⟨rfl, vs, .inl (.inl (offs_at h3).2)⟩, ?_⟩
      refine EX.go h (Q := fun y H2 => rIndexT (V.ref a) [y] H2 Q) sat1 fun y H2 sat2 sm2 hy => ?_
      have h5 := sm2 _ _ h3
      exact ⟨a, vs, y, d, ds, j, z, rfl, rfl, (offs_at h5).2, (h4.to sm2).to offs_same, Dt.on' hy, h2, h1, hz, hzj, hno, q _ H2 sat2 (sm1.trans sm2) (.int _)⟩
/-- xs[j] op= e, xs one's own -/
theorem SX.augO {ss : List Sl} {s1 s2 s3 : Sl} {tip : TIp} (k : EX to g (.con (.ref a))) (hi : EX ti g (.dat (.int j))) (h0 : g.ow[n]? = some (a, .lst ss)) (hj : ss[j]? = some s1) (he : EX te g s2) (rc : RC2 tip g s1 s2 s3) (hn : O.nx (g.ownAt n a (.lst (ss.set j s3)))) : SX (tAugS to ti te (rGetN KF) tip rSetL) g O := fun H0 σ H D sat r => by
  refine k.go sat fun x H1 sat1 sm1 hx => hi.go sat1 fun y H2 sat2 sm2 hy => ?_
  cases (show x = V.ref a from hx)
  obtain ⟨vs, h3, h4⟩ := sat2.ow _ (List.mem_of_getElem? h0)
  obtain ⟨v, h5, h6⟩ := h4.get hj
  refine ⟨a, vs, j, v, rfl, hold_int hy, .inl (.inl h3), h5, he.go sat2 fun w H3 sat3 sm3 hw => rc H0 σ H3 v w _ sat3 (h6.to sm3) hw fun z H4 e4 hz => ?_⟩
  have sat4 := sat3.mono e4
  obtain ⟨ws, h7, h8⟩ := sat4.ow _ (List.mem_of_getElem? h0)
  have hl := (List.getElem?_eq_some_iff.mp hj).1
  have ia := own_in h0
  have sm5 : Same (offs g.l H4) (offs g.l (upd H4 a (.lst (ws.set j z)))) := fun b v hb => by rw [offs_upd ia]; exact hb
  refine ⟨a, ws, j, j, rfl, hold_int hy, h7, by rw [h8.len]; unfold ixN; simp; omega, ?_⟩
  exact r.nx _ σ _ hn (sat4.updO h0 ⟨_, upd_same, (h8.to sm5).set j (hz.to sm5)⟩) (sm1.trans (sm2.trans (sm3.trans ((offs_mono e4).trans (by rw [GS.ownAt_l h0]; exact sm5)))))
end
/-- functions by their arguments -/
def f1 (F : PyData → PyData) : List PyData → PyData
  | [a] => F a
  | _ => .none
def f2 (F : PyData → PyData → PyData) : List PyData → PyData
  | [a, b] => F a b
  | _ => .none
def f3 (F : PyData → PyData → PyData → PyData) : List PyData → PyData
  | [a, b, c] => F a b c
  | _ => .none
def p1 (p : PyData → Prop) (ds : List PyData) : Prop := ∃ a, ds = [a] ∧ p a
def p2 (p : PyData → PyData → Prop) (ds : List PyData) : Prop := ∃ a b, ds = [a, b] ∧ p a b
def p3 (p : PyData → PyData → PyData → Prop) (ds : List PyData) : Prop := ∃ a b c, ds = [a, b, c] ∧ p a b c
theorem p1_len {p : PyData → Prop} {x : Str} : ∀ ds, p1 p ds → ds.length = [x].length := fun ds ⟨a, e, _⟩ => by rw [e]; rfl
theorem p2_len {p : PyData → PyData → Prop} {x y : Str} : ∀ ds, p2 p ds → ds.length = [x, y].length := fun ds ⟨a, b, e, _⟩ => by rw [e]; rfl
theorem p3_len {p : PyData → PyData → PyData → Prop} {x y z : Str} : ∀ ds, p3 p ds → ds.length = [x, y, z].length := fun ds ⟨a, b, c, e, _⟩ => by rw [e]; rfl
end Hw

set_option Elab.async false
set_option linter.all false
set_option maxRecDepth 100000
set_option maxHeartbeats 4000000
/-! sorted of lists of ints, any number of them -/
namespace Hw
open PySem PySem.Spec PyProof.Rows L2
/-- l before m, number by number -/
def lexI : List Int → List Int → Bool
  | [], [] => false
  | [], _ :: _ => true
  | _ :: _, [] => false
  | x :: l, y :: m => if x = y then lexI l m else decide (x < y)
theorem lexI_irr : ∀ l, lexI l l = false
  | [] => rfl
  | x :: l => by rw [lexI, if_pos rfl]; exact lexI_irr l
theorem toks_lex : ∀ l m : List Int, PyProof.Rows.lexLt itemOrd (PySem.W.keyToksAll (l.map PyData.int)) (PySem.W.keyToksAll (m.map PyData.int)) = lexI l m
  | [], [] => by decide +kernel
  | [], y :: m => by
    simp only [List.map_nil, List.map_cons, PySem.W.keyToksAll, PySem.W.keyToks, lexI]
    rw [lex_diff (O := itemOrd) (by simp)]
    rfl
  | x :: l, [] => by
    simp only [List.map_nil, List.map_cons, PySem.W.keyToksAll, PySem.W.keyToks, lexI]
    rw [lex_diff (O := itemOrd) (by simp)]
    rfl
  | x :: l, y :: m => by
    have ih := toks_lex l m
    simp only [List.map_nil, List.map_cons, PySem.W.keyToksAll, PySem.W.keyToks, lexI]
    rw [lex_self (O := itemOrd)]
    show PyProof.Rows.lexLt itemOrd (Sum.inl x :: PySem.W.keyToksAll (l.map PyData.int)) (Sum.inl y :: PySem.W.keyToksAll (m.map PyData.int)) = _
    by_cases h : x = y
    · subst h
      rw [lex_self (O := itemOrd), if_pos rfl, ih]
    · rw [lex_diff (O := itemOrd) (fun z => h (Sum.inl.inj z)), if_neg h]
      rfl
theorem lt_lists (l m : List Int) : PySem.W.dataLt (.list (l.map PyData.int)) (.list (m.map PyData.int)) = lexI l m := by
  rw [PySem.W.dataLt_list, toks_lex]
theorem alike_ints : ∀ l m : List Int, PySem.W.alikeAll (l.map PyData.int) (m.map PyData.int) = true
  | [], _ => by simp only [List.map_nil, PySem.W.alikeAll]
  | x :: l, [] => by simp only [List.map_nil, List.map_cons, PySem.W.alikeAll]
  | x :: l, y :: m => by simp only [List.map_cons, PySem.W.alikeAll, PySem.W.alike, alike_ints l m, Bool.and_self]
theorem swo_lexI (k : Value → List Int) : SrtO.Swo fun v u => lexI (k v) (k u) := by
  refine ⟨fun x y h => ?_, fun x y z h1 h2 => ?_⟩
  · rw [← toks_lex] at h ⊢
    cases z : PyProof.Rows.lexLt itemOrd (PySem.W.keyToksAll ((k y).map PyData.int)) (PySem.W.keyToksAll ((k x).map PyData.int)) with
    | false => rfl
    | true =>
      have := lex_trans _ _ _ h z
      rw [lex_irrefl] at this
      cases this
  · rw [← toks_lex] at h1 h2 ⊢
    cases z' : PyProof.Rows.lexLt itemOrd (PySem.W.keyToksAll ((k z).map PyData.int)) (PySem.W.keyToksAll ((k x).map PyData.int)) with
    | false => rfl
    | true =>
      rcases lex_negTrans _ (PySem.W.keyToksAll ((k y).map PyData.int)) _ z' with a | a
      · rw [a] at h2; cases h2
      · rw [a] at h1; cases h1
/-- a list of ints in the heap -/
def IsLI (h : Heap) (v : Value) (l : List Int) : Prop := ∃ (b : Addr) (o : Obj) (its : List Value) (n : Nat), v = .ref b ∧ h.get? b = some o ∧ o.cls = .type "list" ∧ o.data = .seq its.toArray n ∧ IntsAre its l
theorem reads_ints {h : Heap} : ∀ {its : List Value} {l : List Int}, IntsAre its l → ReadsAll h its (l.map PyData.int) []
  | _, _, .nil => ReadsAll.nil
  | _, _, .cons n t r => ReadsAll.cons (as := []) (bs := []) (.int n t) (reads_ints r)
theorem IsLI.reads {h : Heap} {v : Value} {l : List Int} (i : IsLI h v l) : ∃ as, Reads h v (.list (l.map PyData.int)) as := by
  obtain ⟨b, o, its, n, rfl, ho, hc, hd, hi⟩ := i
  exact ⟨_, Reads.list ho hc hd (by simpa using reads_ints hi)⟩
section
variable {prog : Program} {w : World} {A : Around} {s : Shared}
theorem depth_ints (l : List Int) : (PyData.list (l.map PyData.int)).depth ≤ 2 := by
  have := depthAll_le (n := 1) (l.map PyData.int) fun x hx => by
    obtain ⟨i, _, rfl⟩ := List.mem_map.mp hx
    simp only [PyData.depth]; omega
  simp only [PyData.depth]; omega
theorem lists_sortableO {a : Addr} {vs : List Value} {k : Value → List Int} (h2 : 2 ≤ vs.length) (hp : ∀ v ∈ vs, IsLI s.heap v (k v)) (ha : ∀ v ∈ vs, v ≠ .ref a) (hu : A.units + 2 < cLine) : SrtO.SortableO prog w A s a vs fun v u => lexI (k v) (k u) := by
  intro h' keep
  have hp' : ∀ v ∈ vs, IsLI h' v (k v) := fun v hm => by
    obtain ⟨b, o, its, n, e, ho, rest⟩ := hp v hm
    exact ⟨b, o, its, n, e, keep b o (fun z => ha v hm (by rw [e, z])) ho, rest⟩
  refine ⟨oneType', fun Q E hq => ?_, fun p q hm hm' => ?_⟩
  · refine PySem.W.kas_kind (T := .type "list") h2 (fun v hm => ?_) (by decide +kernel) (by decide +kernel) hq
    obtain ⟨b, o, its, n, e, ho, hc, _⟩ := hp' v hm
    subst e
    exact fun A Q E s k hQ => wpAny_typeOf ⟨o, k _ _ ho, hc⟩ hQ
  · show wpAny (model prog w) A (keyLt' oneType' p.1 q.1) (fun r s' => s' = _ ∧ r = lexI (k p.1) (k q.1)) (fun _ _ => False) _
    obtain ⟨as, ra⟩ := (hp' _ hm).reads
    obtain ⟨bs, rb⟩ := (hp' _ hm').reads
    rw [keyLt'_oneType]
    refine PySem.W.oneLt_alike (fun _ xs z => by cases z) (s := { s with heap := h' }) ra rb (by simp only [PySem.W.alike, alike_ints]) (fun z => by cases z) ?_ ⟨rfl, lt_lists _ _⟩
    have := depth_ints (k p.1)
    omega
end
def kA (k : Addr → List Int) : Value → List Int
  | .ref b => k b
  | _ => []
section
variable {X : Cx}
/-- sorted(xs), lists of ints, any number of them -/
def rSortedL (K : PySem.W.Frag) : List V → Hp → VK → Prop := fun vs H Q => ∃ (a : Addr) (ps : List Addr) (k : Addr → List Int), vs = [V.ref a] ∧ SqL K H a (ps.map V.ref) ∧ (∀ p ∈ ps, H p = some (.lst ((k p).map V.int))) ∧
  ∀ (qs : List Addr) (p : Addr), qs.Perm ps → qs.Pairwise (fun x y => lexI (k y) (k x) = false) → H p = none → Q (.ref p) (upd H p (.lst (qs.map V.ref)))
theorem refs_of : ∀ {ps : List Addr} {us : List Value}, Vals (ps.map V.ref) us → us = ps.map Value.ref
  | [], _, r => by cases r; rfl
  | p :: ps, _, r => by
    cases r with
    | cons h t =>
      have h : _ = Value.ref p := h
      rw [h, refs_of t]
      rfl
theorem vals_refs : ∀ ps : List Addr, Vals (ps.map V.ref) (ps.map Value.ref)
  | [] => .nil
  | p :: ps => .cons rfl (vals_refs ps)
theorem cr_sortedL (hu : X.A.units + 64 < cLine) : CallR X (.builtin "sorted") (rSortedL X.K) := by
  intro pins s σ H vs us Q I r h
  obtain ⟨a, ps, k, rfl, hs, hk, q⟩ := h
  obtain ⟨items, rv, isl, most⟩ := I.list hs
  rw [Vals.ref1 r]
  have e := refs_of rv
  subst e
  have hL : ∀ v ∈ ps.map Value.ref, IsLI s.heap v (kA k v) := fun v hv => by
    obtain ⟨p, hp, rfl⟩ := List.mem_map.mp hv
    obtain ⟨its, rv2, ⟨o, n, ho, hc, _, hd⟩, _⟩ := I.list (X := X) (show SqL X.K H p _ from .inl (.inl (hk p hp)))
    exact ⟨p, o, its, n, rfl, ho, hc, hd, rv2.ints⟩
  refine SrtO.sorted_ord (swo_lexI (kA k)) isl.isList (by rw [← rv.length]; exact most) (fun h2 h₁ a' _ kk => ?_) fun out h1 h2 => ?_
  · refine lists_sortableO h2 (fun v hv => ?_) (fun v hv => ?_) ?_
    · obtain ⟨b, o, its, n, e, ho, rest⟩ := hL v hv
      exact ⟨b, o, its, n, e, (kk b o ho).2, rest⟩
    · obtain ⟨b, o, its, n, e, ho, rest⟩ := hL v hv
      rw [e]
      exact fun z => (kk b o ho).1 (Value.ref.inj z)
    · show X.A.units + 1 + 1 + 2 < cLine
      omega
  obtain ⟨ep, he'⟩ := PyProof.Rows.sortedAll_at s.heap (ps.map Value.ref) out.toArray
  obtain ⟨qs, e, pq⟩ : ∃ qs : List Addr, out = qs.map Value.ref ∧ qs.Perm ps := by
    let b : Value → Addr := fun v => match v with | .ref x => x | _ => 0
    have hb : (ps.map Value.ref).map b = ps := by rw [List.map_map]; exact List.map_id _
    refine ⟨out.map b, ?_, by have := h2.perm.map b; rwa [hb] at this⟩
    have : ∀ v ∈ out, Value.ref (b v) = v := fun v hv => by
      obtain ⟨p, _, rfl⟩ := List.mem_map.mp (h2.perm.mem_iff.mp hv)
      rfl
    rw [List.map_map]
    exact (List.map_id out).symm.trans (List.map_congr_left fun v hv => (this v hv).symm)
  subst e
  have hlen : (qs.map V.ref).length ≤ sizeLine := by
    rw [List.length_map, pq.length_eq]
    rw [List.length_map] at most
    exact most
  refine ⟨.ref _, upd H (s.heap.objs.size + 1) (.lst (qs.map V.ref)), I.laid (t' := s.toks) (fun _ _ => PyProof.Rows.sortedAll_old) (Nat.le_succ _) ⟨hlen, qs.map Value.ref, ep, vals_refs qs, he'⟩, rfl, q _ _ pq ?_ (I.hok.fresh (Nat.le_succ _))⟩
  have h1 : (qs.map Value.ref).Pairwise _ := h1
  rw [List.pairwise_map] at h1
  exact h1
end
end Hw

set_option Elab.async false
set_option linter.all false
set_option maxRecDepth 100000
set_option maxHeartbeats 4000000
/-! sorted of pairs (text, int), any number of them -/
namespace Hw
open PySem PySem.Spec PyProof.Rows L2
def tokTI (x : Str × Int) : List (Int ⊕ List Nat) := [.inr x.1.cps.toList, .inl x.2]
/-- x before y -/
def ltTI (x y : Str × Int) : Bool := PyProof.Rows.lexLt itemOrd (tokTI x) (tokTI y)
theorem swo_ltTI (k : Value → Str × Int) : SrtO.Swo fun v u => ltTI (k v) (k u) := by
  refine ⟨fun x y h => ?_, fun x y z h1 h2 => ?_⟩
  · show PyProof.Rows.lexLt itemOrd _ _ = false
    have h : PyProof.Rows.lexLt itemOrd (tokTI (k x)) (tokTI (k y)) = true := h
    cases z : PyProof.Rows.lexLt itemOrd (tokTI (k y)) (tokTI (k x)) with
    | false => rfl
    | true =>
      have := lex_trans _ _ _ h z
      rw [lex_irrefl] at this
      cases this
  · have h1 : PyProof.Rows.lexLt itemOrd (tokTI (k y)) (tokTI (k x)) = false := h1
    have h2 : PyProof.Rows.lexLt itemOrd (tokTI (k z)) (tokTI (k y)) = false := h2
    show PyProof.Rows.lexLt itemOrd (tokTI (k z)) (tokTI (k x)) = false
    cases z' : PyProof.Rows.lexLt itemOrd (tokTI (k z)) (tokTI (k x)) with
    | false => rfl
    | true =>
      rcases lex_negTrans _ (tokTI (k y)) _ z' with a | a
      · rw [a] at h2; cases h2
      · rw [a] at h1; cases h1
/-- such a pair in the heap -/
def IsTI (h : Heap) (v : Value) (x : Str × Int) : Prop := ∃ (b : Addr) (o : Obj) (t u : Tok) (n : Nat), v = .ref b ∧ h.get? b = some o ∧ o.cls = .type "tuple" ∧ o.data = .seq #[.str x.1 t, .int x.2 u] n
def shTI (i : Nat) : Bool := i == 0
theorem IsTI.key {h : Heap} {v : Value} {x : Str × Int} (i : IsTI h v x) : (tupKind h shTI).keyOf v = some (tokTI x) := by
  obtain ⟨b, o, t, u, n, rfl, ho, hc, hd⟩ := i
  show tupKey h shTI (.ref b) = _
  simp only [tupKey, ho, hd]
  rfl
section
variable {prog : Program} {w : World} {A : Around} {s : Shared}
theorem ti_sortableO {a : Addr} {vs : List Value} {k : Value → Str × Int} (h2 : 2 ≤ vs.length) (hp : ∀ v ∈ vs, IsTI s.heap v (k v)) (ha : ∀ v ∈ vs, v ≠ .ref a) : SrtO.SortableO prog w A s a vs fun v u => ltTI (k v) (k u) := by
  intro h' keep
  have hp' : ∀ v ∈ vs, IsTI h' v (k v) := fun v hm => by
    obtain ⟨b, o, t, u, n, e, ho, rest⟩ := hp v hm
    exact ⟨b, o, t, u, n, e, keep b o (fun z => ha v hm (by rw [e, z])) ho, rest⟩
  have tof : ∀ l : List Value, (∀ v ∈ l, v ∈ vs) → ∃ fs, TupsOf h' shTI l fs ∧ fs.length = l.length := by
    intro l
    induction l with
    | nil => exact fun _ => ⟨[], .nil, rfl⟩
    | cons v r ih =>
      intro hm
      obtain ⟨fs, h1, h2⟩ := ih fun u hu => hm u (List.mem_cons_of_mem _ hu)
      obtain ⟨b, o, t, u, n, e, ho, hc, hd⟩ := hp' v (hm v (List.mem_cons_self ..))
      exact ⟨.str (k v).1 t :: fs, .cons ⟨b, o, _, n, e, ho, hc, hd, rfl, ⟨fun z => Bool.noConfusion (show true = false from z), fun _ => ⟨_, _, rfl⟩⟩⟩ h1, by rw [List.length_cons, List.length_cons, h2]⟩
  refine ⟨tuples' true, fun Q E hq => ?_, fun p q hm hm' => ?_⟩
  · obtain ⟨fs, h1, h3⟩ := tof vs fun v h => h
    exact tup_kind (s := { s with heap := h' }) (by omega) h1 hq
  · show wpAny (model prog w) A (keyLt' (tuples' true) p.1 q.1) (fun r s' => s' = _ ∧ r = ltTI (k p.1) (k q.1)) (fun _ _ => False) _
    exact tup_ltAt (s := { s with heap := h' }) true A _ p.1 q.1 _ _ (hp' _ hm).key (hp' _ hm').key ⟨rfl, rfl⟩
end
def kTI (k : Addr → Str × Int) : Value → Str × Int
  | .ref b => k b
  | _ => ("", 0)
section
variable {X : Cx}
/-- sorted(xs), pairs of a text and an int, any number of them -/
def rSortedTI (K : PySem.W.Frag) : List V → Hp → VK → Prop := fun vs H Q => ∃ (a : Addr) (ps : List Addr) (k : Addr → Str × Int), vs = [V.ref a] ∧ SqL K H a (ps.map V.ref) ∧ (∀ p ∈ ps, H p = some (.tup [.str (k p).1, .int (k p).2])) ∧
  ∀ (qs : List Addr) (p : Addr), qs.Perm ps → qs.Pairwise (fun x y => ltTI (k y) (k x) = false) → H p = none → Q (.ref p) (upd H p (.lst (qs.map V.ref)))
theorem cr_sortedTI (K : PySem.W.Frag) (hK : X.K = K) : CallR X (.builtin "sorted") (rSortedTI K) := by
  subst hK
  intro pins s σ H vs us Q I r h
  obtain ⟨a, ps, k, rfl, hs, hk, q⟩ := h
  obtain ⟨items, rv, isl, most⟩ := I.list hs
  rw [Vals.ref1 r]
  have e := refs_of rv
  subst e
  have hL : ∀ v ∈ ps.map Value.ref, IsTI s.heap v (kTI k v) := fun v hv => by
    obtain ⟨p, hp, rfl⟩ := List.mem_map.mp hv
    obtain ⟨_, its2, r2, o, ho, hc, n, hd⟩ := I.hok _ _ (hk p hp)
    obtain ⟨u1, u2, rfl, ri, rj⟩ := vals2 r2
    obtain ⟨t1, rfl⟩ := ri
    obtain ⟨t2, rfl⟩ := rj
    exact ⟨p, o, t1, t2, n, rfl, ho, hc, hd⟩
  refine SrtO.sorted_ord (swo_ltTI (kTI k)) isl.isList (by rw [← rv.length]; exact most) (fun h2 h₁ a' _ kk => ?_) fun out h1 h2 => ?_
  · refine ti_sortableO h2 (fun v hv => ?_) (fun v hv => ?_)
    · obtain ⟨b, o, t, u, n, e, ho, rest⟩ := hL v hv
      exact ⟨b, o, t, u, n, e, (kk b o ho).2, rest⟩
    · obtain ⟨b, o, t, u, n, e, ho, rest⟩ := hL v hv
      rw [e]
      exact fun z => (kk b o ho).1 (Value.ref.inj z)
  obtain ⟨ep, he'⟩ := PyProof.Rows.sortedAll_at s.heap (ps.map Value.ref) out.toArray
  obtain ⟨qs, e, pq⟩ : ∃ qs : List Addr, out = qs.map Value.ref ∧ qs.Perm ps := by
    let b : Value → Addr := fun v => match v with | .ref x => x | _ => 0
    have hb : (ps.map Value.ref).map b = ps := by rw [List.map_map]; exact List.map_id _
    refine ⟨out.map b, ?_, by have := h2.perm.map b; rwa [hb] at this⟩
    have : ∀ v ∈ out, Value.ref (b v) = v := fun v hv => by
      obtain ⟨p, _, rfl⟩ := List.mem_map.mp (h2.perm.mem_iff.mp hv)
      rfl
    rw [List.map_map]
    exact (List.map_id out).symm.trans (List.map_congr_left fun v hv => (this v hv).symm)
  subst e
  have hlen : (qs.map V.ref).length ≤ sizeLine := by
    rw [List.length_map, pq.length_eq]
    rw [List.length_map] at most
    exact most
  refine ⟨.ref _, upd H (s.heap.objs.size + 1) (.lst (qs.map V.ref)), I.laid (t' := s.toks) (fun _ _ => PyProof.Rows.sortedAll_old) (Nat.le_succ _) ⟨hlen, qs.map Value.ref, ep, vals_refs qs, he'⟩, rfl, q _ _ pq ?_ (I.hok.fresh (Nat.le_succ _))⟩
  have h1 : (qs.map Value.ref).Pairwise _ := h1
  rw [List.pairwise_map] at h1
  exact h1
end
/-! over pure states -/
def tiD (x : Str × Int) : PyData := .tuple [.str x.1, .int x.2]
section
variable {g : GS} {te : TE} {KF : PySem.W.Frag} {K : Sl → GS → Prop}
theorem dt_ti {l : List Addr} {H : Hp} : ∀ (xs : List (Str × Int)) {vs : List V}, DtAll (offs l H) vs (xs.map tiD) → ∃ ps : List Addr, vs = ps.map V.ref ∧ ps.length = xs.length ∧ ∀ (i : Nat) (p : Addr) (x : Str × Int), ps[i]? = some p → xs[i]? = some x → offs l H p = some (.tup [.str x.1, .int x.2])
  | [], _, h => by cases h; exact ⟨[], rfl, rfl, fun i p x h => by simp at h⟩
  | y :: r, _, h => by
    cases h with
    | cons h1 h2 =>
      obtain ⟨ps, e1, e2, e3⟩ := dt_ti r h2
      cases h1 with
      | @tup a vs _ a1 a2 =>
        cases a2 with
        | cons b1 b2 =>
          cases b2 with
          | cons b2 b3 =>
            cases b3
            cases b1
            cases b2
            refine ⟨a :: ps, by rw [e1]; rfl, by rw [List.length_cons, List.length_cons, e2], fun i p x h h' => ?_⟩
            cases i with
            | zero => cases h; cases h'; exact a1
            | succ i => exact e3 i p x h h'
theorem EM.sortedTI {xs : List (Str × Int)} (h : EX te g (.dat (.list (xs.map tiD)))) (k : ∀ ys : List (Str × Int), ys.Perm xs → ys.Pairwise (fun x y => ltTI y x = false) → K (.dat (.list (ys.map tiD))) g) : EM (tCB (rSortedTI KF) (tCons te tNil)) g K := fun H0 σ H Q sat q => by
  refine h.go sat fun x H1 sat1 sm1 hx => ?_
  cases hx with
  | @lst a vs _ h1 h2 =>
    obtain ⟨ps, rfl, el, at_⟩ := dt_ti xs h2
    -- what stands at a place
    let kf : Addr → Str × Int := fun p => match H1 p with
      | some (.tup [.str x, .int n]) => (x, n)
      | _ => ("", 0)
    have hk : ∀ (i : Nat) (p : Addr) (x : Str × Int), ps[i]? = some p → xs[i]? = some x → kf p = x := fun i p x h h' => by
      have := (offs_at (at_ i p x h h')).2
      show (match H1 p with | some (.tup [.str x, .int n]) => (x, n) | _ => ("", 0)) = x
      rw [this]
    have hmap : ps.map kf = xs := by
      apply List.ext_getElem?
      intro i
      rw [List.getElem?_map]
      by_cases hi : i < ps.length
      · rw [List.getElem?_eq_getElem hi, List.getElem?_eq_getElem (by omega)]
        exact congrArg some (hk i _ _ (List.getElem?_eq_getElem hi) (List.getElem?_eq_getElem (by omega)))
      · rw [List.getElem?_eq_none (by omega), List.getElem?_eq_none (by omega)]
        rfl
    have hat : ∀ p ∈ ps, offs g.l H1 p = some (.tup [.str (kf p).1, .int (kf p).2]) := fun p hp => by
      obtain ⟨i, hi⟩ := List.getElem?_of_mem hp
      have hl := (List.getElem?_eq_some_iff.mp hi).1
      have hx : xs[i]? = some xs[i] := List.getElem?_eq_getElem (by omega)
      rw [hk i p _ hi hx]
      exact at_ i p _ hi hx
    refine ⟨a, ps, kf, rfl, .inl (.inl (offs_at h1).2), fun p hp => (offs_at (hat p hp)).2, fun qs p pq srt hp => ?_⟩
    have sm := same_new' (o := .lst (qs.map V.ref)) hp
    have key : ∀ l : List Addr, (∀ q ∈ l, q ∈ ps) → DtAll (offs g.l (upd H1 p (.lst (qs.map V.ref)))) (l.map V.ref) ((l.map kf).map tiD) := by
      intro l
      induction l with
      | nil => exact fun _ => .nil
      | cons b r ih =>
        intro hb
        refine .cons (.tup (offs_mono sm _ _ (hat b (hb b (List.mem_cons_self ..)))) (.cons (.str _) (.cons (.int _) .nil))) (ih fun c hc => hb c (List.mem_cons_of_mem _ hc))
    refine q (.ref p) _ _ g (k (qs.map kf) (by rw [← hmap]; exact pq.map kf) (List.pairwise_map.mpr srt)) rfl (sat1.mono sm) (sm1.trans (offs_mono sm)) (.lst (offs_of (sat1.newNot hp) upd_same) (key qs fun c hc => pq.mem_iff.mp hc))
theorem EM.sortedS {xs : List Str} (h : EX te g (.dat (.list (xs.map .str)))) (hz : xs.length < 64) (k : ∀ ys : List Str, ys.Perm xs → PyProof.Rows.sortedS ys = true → K (.dat (.list (ys.map .str))) g) : EM (tCB (rSortedS KF) (tCons te tNil)) g K := fun H0 σ H Q sat q => by
  refine h.go sat fun x H1 sat1 sm1 hx => ?_
  cases hx with
  | @lst a vs _ h1 h2 =>
    rw [strs_of xs h2] at h1
    refine ⟨a, xs, rfl, .inl (.inl (offs_at h1).2), hz, fun ys p pq srt hp => ?_⟩
    have sm := same_new' (o := .lst (ys.map V.str)) hp
    have key : ∀ l : List Str, DtAll (offs g.l (upd H1 p (.lst (ys.map V.str)))) (l.map V.str) (l.map .str) := by
      intro l
      induction l with
      | nil => exact .nil
      | cons b r ih => exact .cons (.str _) ih
    exact q (.ref p) _ _ g (k ys pq srt) rfl (sat1.mono sm) (sm1.trans (offs_mono sm)) (.lst (offs_of (sat1.newNot hp) upd_same) (key ys))
end
end Hw

set_option Elab.async false
set_option linter.all false
set_option maxRecDepth 100000
set_option maxHeartbeats 4000000
/-! promises by a relation; expressions as trees -/
namespace Hw
open PySem PySem.Spec PyProof.Rows L2
/-- data in, new data out, by a relation -/
def spR (R : List PyData → PyData → Prop) : Sp := fun vs H Q _ => ∃ (ds : List PyData) (r : PyData) (l : List Addr), DtAll (offs l H) vs ds ∧ (∀ a ∈ l, ∃ o, H a = some o) ∧ l.Nodup ∧ R ds r ∧ ∀ v H', Same H H' → Dt (offs l H') v r → Q v H'
section
variable {g : GS} {d : PyData} {ds : List PyData} {R : List PyData → PyData → Prop} {E : XK} {ta : TA}
theorem EX.callR (h : EAX ta g (ds.map Sl.dat)) (hp : R ds d) : EX (tCall (spR R) [] E ta) g (.dat d) := EX.of fun H0 σ H Q sat q => by
  refine h H0 σ H _ sat fun xs H1 ss g1 k1 e1 sat1 sm1 h1 => ?_
  obtain ⟨rfl, rfl⟩ := k1
  rw [List.append_nil]
  exact ⟨ds, d, g1.l, h1.dats, sat1.dom, sat1.nd, hp, fun v H2 sm2 hv => q v H2 (sat1.mono sm2) (sm1.trans (offs_mono sm2)) hv⟩
theorem EX.callRW {m : Nat} {gV : List V → List V} {ss : List Sl} (h : EAX ta g ss) (hg : ∀ l H zs, HoldA l H zs ss → zs.length = m ∧ HoldA l H (gV zs) (ds.map Sl.dat)) (hp : R ds d) : EX (tCallW (spR R) m gV E ta) g (.dat d) := EX.of fun H0 σ H Q sat q => by
  refine h H0 σ H _ sat fun xs H1 ss g1 k1 e1 sat1 sm1 h1 => ?_
  obtain ⟨rfl, rfl⟩ := k1
  obtain ⟨hm, h2⟩ := hg _ _ _ h1
  exact ⟨hm, ds, d, g1.l, h2.dats, sat1.dom, sat1.nd, hp, fun v H2 sm2 hv => q v H2 (sat1.mono sm2) (sm1.trans (offs_mono sm2)) hv⟩
variable {P : Program} {w : World} {K : PySem.W.Frag} {mg : Str → Option Value} {base : Heap}
theorem bodyR {x : Str} {st : Stmt} {f : Addr} {fd : FuncData} {N ps : List Str} {k : Nat}
    (F : DefAt K x st f fd) (S : FnScope N ps (defScope st)) (ar : ∀ ds r, R ds r → ds.length = ps.length)
    (hb : ∀ (cdv : Value) (A : Around) (outer : List Env) (s : Shared) (H : Hp) (E : XK), Gd (A.deeper (envOfC x (defScope st) s.heap.objs.size f cdv)) → Room k (A.deeper (envOfC x (defScope st) s.heap.objs.size f cdv)) →
      ∃ t, PSs (cxOf CX0 P w K mg base N x (defScope st) f cdv A outer s H E).nox (defBody st) t ∧ ∀ ds r hd, R ds r → SX t ⟨slots N.length (ds.map Sl.dat), [], [], hd, []⟩ (outF hd r)) : FnG P w K mg base CX0 (k + 1) f fd ps (spR R) := by
  refine bodyG0 F S (fun vs H Q E h => ?_) fun cdv A outer s H vs Q E gd hr h => ?_
  · obtain ⟨ds, r, l, h1, _, _, h2, _⟩ := h
    rw [h1.len, ar ds r h2]
  · obtain ⟨ds, r, l, h1, dom, nd, h2, q⟩ := h
    obtain ⟨t, p1, p2⟩ := hb cdv A outer s H E gd hr
    refine ⟨t, p1, p2 ds r l h2 H _ H _ ?_ ⟨fun g' σ' H' e sat' sm => ?_, fun s g' σ' v H' e sat' sm hv => ?_, fun _ _ _ z => z.elim, fun _ _ _ z => z.elim⟩⟩
    · obtain ⟨a1, a2⟩ := start_sat (N := N) (HoldA.of h1)
      exact ⟨a1, a2, fun p hp => (nomatch hp), fun p hp => (nomatch hp), nd, dom, fun b o _ h => h, fun a ha => (nomatch ha)⟩
    · obtain ⟨e1, e2, e3⟩ := e
      obtain ⟨s1, s2⟩ := outF_nx e2 e3 sat'
      exact q .non H' s1 (by rw [e1]; exact .non)
    · obtain ⟨rfl, e2, e3⟩ := e
      obtain ⟨s1, s2⟩ := outF_nx e2 e3 sat'
      exact q v H' s1 (Dt.to hv s2)
end
/-! ### data without truth values: equal by == is equal -/
mutual
def plainD : PyData → Bool
  | .none => true
  | .bool _ => false
  | .int _ => true
  | .str _ => true
  | .list ds => plainAll ds
  | .tuple ds => plainAll ds
  | .dict _ => false
def plainAll : List PyData → Bool
  | [] => true
  | d :: ds => plainD d && plainAll ds
end
mutual
theorem eqv_plain : ∀ a b : PyData, plainD a = true → plainD b = true → (PyData.eqv a b = true ↔ a = b)
  | .none, b, _, hb => by cases b <;> simp [PyData.eqv]
  | .bool _, b, ha, _ => by cases ha
  | .int i, b, _, hb => by cases b <;> first | exact Bool.noConfusion (show false = true from hb) | simp [PyData.eqv]
  | .str z, b, _, hb => by cases b <;> simp [PyData.eqv]
  | .list xs, b, ha, hb => by
    cases b with
    | list ys =>
      have := eqvAll_plain xs ys (by simpa [plainD] using ha) (by simpa [plainD] using hb)
      simp [PyData.eqv, this]
    | _ => simp [PyData.eqv]
  | .tuple xs, b, ha, hb => by
    cases b with
    | tuple ys =>
      have := eqvAll_plain xs ys (by simpa [plainD] using ha) (by simpa [plainD] using hb)
      simp [PyData.eqv, this]
    | _ => simp [PyData.eqv]
  | .dict _, b, ha, _ => by cases ha
theorem eqvAll_plain : ∀ a b : List PyData, plainAll a = true → plainAll b = true → (PyData.eqvAll a b = true ↔ a = b)
  | [], [], _, _ => by simp [PyData.eqvAll]
  | [], y :: ys, _, _ => by simp [PyData.eqvAll]
  | x :: xs, [], _, _ => by simp [PyData.eqvAll]
  | x :: xs, y :: ys, ha, hb => by
    rw [plainAll, Bool.and_eq_true] at ha hb
    have h1 := eqv_plain x y ha.1 hb.1
    have h2 := eqvAll_plain xs ys ha.2 hb.2
    simp [PyData.eqvAll, h1, h2]
end
/-! ### expressions -/
inductive Op2 where
  | plus | minus | both | either | unlike
  deriving DecidableEq
def Op2.w : Op2 → Str
  | .plus => "plus"
  | .minus => "minus"
  | .both => "both"
  | .either => "either"
  | .unlike => "unlike"
inductive Et where
  | int (i : Int)
  | nm (z : Str)
  | turned (a : Et)
  | times (i : Int) (a : Et)
  | up (n : Nat) (a : Et)
  | down (n : Nat) (a : Et)
  | bin (o : Op2) (a b : Et)
  deriving DecidableEq
namespace Et
def d : Et → PyData
  | .int i => .int i
  | .nm z => .str z
  | .turned a => .tuple [.str "turned", a.d]
  | .times i a => .tuple [.str "times", .int i, a.d]
  | .up n a => .tuple [.str "up", .int (n : Int), a.d]
  | .down n a => .tuple [.str "down", .int (n : Int), a.d]
  | .bin o a b => .tuple [.str o.w, a.d, b.d]
def depth : Et → Nat
  | .int _ => 0
  | .nm _ => 0
  | .turned a => a.depth + 1
  | .times _ a => a.depth + 1
  | .up _ a => a.depth + 1
  | .down _ a => a.depth + 1
  | .bin _ a b => max a.depth b.depth + 1
/-- numbers not far, names of the list -/
def ok (ns : List Str) : Et → Prop
  | .int i => i.natAbs ≤ 10000
  | .nm z => z ∈ ns
  | .turned a => a.ok ns
  | .times i a => i.natAbs ≤ 10000 ∧ a.ok ns
  | .up n a => n ≤ 100 ∧ a.ok ns
  | .down n a => n ≤ 100 ∧ a.ok ns
  | .bin _ a b => a.ok ns ∧ b.ok ns
theorem plain : ∀ e : Et, plainD e.d = true
  | .int _ => rfl
  | .nm _ => rfl
  | .turned a => by simp [d, plainD, plainAll, plain a]
  | .times i a => by simp [d, plainD, plainAll, plain a]
  | .up n a => by simp [d, plainD, plainAll, plain a]
  | .down n a => by simp [d, plainD, plainAll, plain a]
  | .bin o a b => by simp [d, plainD, plainAll, plain a, plain b]
theorem d_inj : ∀ a b : Et, a.d = b.d → a = b
  | .int i, b, h => by cases b <;> simp [d] at h ⊢; exact h
  | .nm z, b, h => by cases b <;> simp [d] at h ⊢; exact h
  | .turned a, b, h => by
    cases b <;> simp [d] at h ⊢
    exact d_inj a _ h
  | .times i a, b, h => by
    cases b with
    | bin o x y => exfalso; simp only [d] at h; injection h with h; injection h with h1 h2; injection h1 with h1; cases o <;> exact absurd h1 (by decide)
    | _ =>
      simp [d] at h ⊢
      try exact ⟨h.1, d_inj a _ h.2⟩
      try exact ⟨by have := h.1; omega, d_inj a _ h.2⟩
      try exact absurd h.1 (by decide)
  | .up n a, b, h => by
    cases b with
    | bin o x y => exfalso; simp only [d] at h; injection h with h; injection h with h1 h2; injection h1 with h1; cases o <;> exact absurd h1 (by decide)
    | _ =>
      simp [d] at h ⊢
      try exact ⟨h.1, d_inj a _ h.2⟩
      try exact ⟨by have := h.1; omega, d_inj a _ h.2⟩
      try exact absurd h.1 (by decide)
  | .down n a, b, h => by
    cases b with
    | bin o x y => exfalso; simp only [d] at h; injection h with h; injection h with h1 h2; injection h1 with h1; cases o <;> exact absurd h1 (by decide)
    | _ =>
      simp [d] at h ⊢
      try exact ⟨h.1, d_inj a _ h.2⟩
      try exact ⟨by have := h.1; omega, d_inj a _ h.2⟩
      try exact absurd h.1 (by decide)
  | .bin o a c, b, h => by
    cases b with
    | bin o' x y =>
      simp only [d] at h; injection h with h; injection h with h1 h2; injection h2 with h2 h3; injection h3 with h3 _; injection h1 with h1
      have : o = o' := by cases o <;> cases o' <;> first | rfl | exact absurd h1 (by decide)
      rw [this, d_inj a x h2, d_inj c y h3]
    | int i => simp [d] at h
    | nm z => simp [d] at h
    | turned x => simp [d] at h
    | times i x => exfalso; simp only [d] at h; injection h with h; injection h with h1 h2; injection h1 with h1; cases o <;> exact absurd h1 (by decide)
    | up i x => exfalso; simp only [d] at h; injection h with h; injection h with h1 h2; injection h1 with h1; cases o <;> exact absurd h1 (by decide)
    | down i x => exfalso; simp only [d] at h; injection h with h; injection h with h1 h2; injection h1 with h1; cases o <;> exact absurd h1 (by decide)
theorem eqv (a b : Et) : PyData.eqv a.d b.d = decide (a = b) := by
  by_cases h : a = b
  · rw [h, decide_eq_true rfl]
    exact (eqv_plain _ _ b.plain b.plain).mpr rfl
  · rw [decide_eq_false h]
    cases q : PyData.eqv a.d b.d with
    | false => rfl
    | true => exact absurd (d_inj a b ((eqv_plain _ _ a.plain b.plain).mp q)) h
theorem okN_d {ns : List Str} (hn : ∀ z ∈ ns, z.length ≤ 10) : ∀ (e : Et) (n : Nat), e.depth ≤ n → e.ok ns → okN n e.d = true := by
  have t2 : ∀ (n : Nat) (z : Str) (x : PyData), z.length ≤ 1000000 → okN n x = true → okN (n + 1) (.tuple [.str z, x]) = true := fun n z x hz h => by
    have : okN n (.str z) = true := by cases n <;> exact decide_eq_true hz
    simp [okN, this, h]
  have t3 : ∀ (n : Nat) (z : Str) (x y : PyData), z.length ≤ 1000000 → okN n x = true → okN n y = true → okN (n + 1) (.tuple [.str z, x, y]) = true := fun n z x y hz h k => by
    have : okN n (.str z) = true := by cases n <;> exact decide_eq_true hz
    simp [okN, this, h, k]
  have ti : ∀ (n : Nat) (i : Int), okN n (.int i) = true := fun n i => by cases n <;> rfl
  intro e
  induction e with
  | int i => intro n _ _; exact ti n i
  | nm z => intro n _ h; have := hn z h; cases n <;> exact decide_eq_true (by omega)
  | turned a ih => intro n hd h; cases n with
    | zero => exact absurd hd (Nat.not_succ_le_zero _)
    | succ n => exact t2 n _ _ (by decide) (ih n (Nat.le_of_succ_le_succ hd) h)
  | times i a ih => intro n hd h; cases n with
    | zero => exact absurd hd (Nat.not_succ_le_zero _)
    | succ n => exact t3 n _ _ _ (by decide) (ti n i) (ih n (Nat.le_of_succ_le_succ hd) h.2)
  | up i a ih => intro n hd h; cases n with
    | zero => exact absurd hd (Nat.not_succ_le_zero _)
    | succ n => exact t3 n _ _ _ (by decide) (ti n i) (ih n (Nat.le_of_succ_le_succ hd) h.2)
  | down i a ih => intro n hd h; cases n with
    | zero => exact absurd hd (Nat.not_succ_le_zero _)
    | succ n => exact t3 n _ _ _ (by decide) (ti n i) (ih n (Nat.le_of_succ_le_succ hd) h.2)
  | bin o a b iha ihb => intro n hd h; cases n with
    | zero => exact absurd hd (Nat.not_succ_le_zero _)
    | succ n =>
      have hd : max a.depth b.depth ≤ n := Nat.le_of_succ_le_succ hd
      exact t3 n _ _ _ (by cases o <;> decide) (iha n (by omega) h.1) (ihb n (by omega) h.2)
theorem exN_w {n : Nat} {w : Str} {ps : List PyData} {ks : List Str} (h : exprT.lookup w = some ks) (k : (decide (ps.length = ks.length) && (ks.zip ps).all fun q => if q.1 = "expression" then exN n q.2 else if q.1 = "whole" then wholeB q.2 else countB q.2) = true) : exN (n + 1) (.tuple (.str w :: ps)) = true := by
  show (match exprT.lookup w with | none => false | some ks => decide (ps.length = ks.length) && (ks.zip ps).all fun q => if q.1 = "expression" then exN n q.2 else if q.1 = "whole" then wholeB q.2 else countB q.2) = true
  rw [h]
  exact k
theorem we : ("whole" : Str) ≠ "expression" := by decide
theorem ce : ("count" : Str) ≠ "expression" := by decide
theorem cw : ("count" : Str) ≠ "whole" := by decide
theorem exN_d {ns : List Str} (hn : ∀ z ∈ ns, nameB z = true) : ∀ (e : Et) (n : Nat), e.depth ≤ n → e.ok ns → exN n e.d = true := by
  intro e
  induction e with
  | int i => intro n _ _; cases n <;> rfl
  | nm z => intro n _ h; have := hn z h; cases n <;> exact this
  | turned a ih => intro n hd h; cases n with
    | zero => exact absurd hd (Nat.not_succ_le_zero _)
    | succ n =>
      have := ih n (Nat.le_of_succ_le_succ hd) h
      exact exN_w (ks := ["expression"]) (by decide +kernel) (by simp [this])
  | times i a ih => intro n hd h; cases n with
    | zero => exact absurd hd (Nat.not_succ_le_zero _)
    | succ n =>
      have := ih n (Nat.le_of_succ_le_succ hd) h.2
      exact exN_w (ks := ["whole", "expression"]) (by decide +kernel) (by simp [this, wholeB, isInt, isBool, we])
  | up i a ih => intro n hd h; cases n with
    | zero => exact absurd hd (Nat.not_succ_le_zero _)
    | succ n =>
      have := ih n (Nat.le_of_succ_le_succ hd) h.2
      exact exN_w (ks := ["count", "expression"]) (by decide +kernel) (by simp [this, countB, ce, cw])
  | down i a ih => intro n hd h; cases n with
    | zero => exact absurd hd (Nat.not_succ_le_zero _)
    | succ n =>
      have := ih n (Nat.le_of_succ_le_succ hd) h.2
      exact exN_w (ks := ["count", "expression"]) (by decide +kernel) (by simp [this, countB, ce, cw])
  | bin o a b iha ihb => intro n hd h; cases n with
    | zero => exact absurd hd (Nat.not_succ_le_zero _)
    | succ n =>
      have hd : max a.depth b.depth ≤ n := Nat.le_of_succ_le_succ hd
      have h1 := iha n (by omega) h.1
      have h2 := ihb n (by omega) h.2
      exact exN_w (ks := ["expression", "expression"]) (by cases o <;> decide +kernel) (by simp [h1, h2])
/-- how large -/
theorem bnd {ns : List Str} (hn : ∀ z ∈ ns, okD (.str z) = true ∧ z.cps.size ≤ 10) : ∀ (e : Et) (n : Nat), e.depth ≤ n → e.ok ns → Bnd n (40 * 4 ^ n) e.d := by
  have p1 : ∀ n : Nat, 1 ≤ 4 ^ n := fun n => Nat.pow_pos (by decide)
  have t2 : ∀ (n : Nat) (z : Str) (x : PyData), okD (.str z) = true → z.cps.size ≤ 10 → Bnd n (40 * 4 ^ n) x → Bnd (n + 1) (40 * 4 ^ (n + 1)) (.tuple [.str z, x]) := fun n z x h1 h2 h => by
    have := p1 n
    refine Bnd.tuple (n := 3) (b := 40 * 4 ^ n) (fun y hy => ?_) (by simp) (by rw [Nat.pow_succ]; omega)
    simp only [List.mem_cons, List.not_mem_nil, or_false] at hy
    rcases hy with rfl | rfl
    · exact Bnd.str h1 (by omega)
    · exact h
  have t3 : ∀ (n : Nat) (z : Str) (x y : PyData), okD (.str z) = true → z.cps.size ≤ 10 → Bnd n (40 * 4 ^ n) x → Bnd n (40 * 4 ^ n) y → Bnd (n + 1) (40 * 4 ^ (n + 1)) (.tuple [.str z, x, y]) := fun n z x y h1 h2 h k => by
    have := p1 n
    refine Bnd.tuple (n := 3) (b := 40 * 4 ^ n) (fun y hy => ?_) (by simp) (by rw [Nat.pow_succ]; omega)
    simp only [List.mem_cons, List.not_mem_nil, or_false] at hy
    rcases hy with rfl | rfl | rfl
    · exact Bnd.str h1 (by omega)
    · exact h
    · exact k
  intro e
  induction e with
  | int i => intro n _ h; have h : i.natAbs ≤ 10000 := h; exact Bnd.int (by omega)
  | nm z => intro n _ h; have := hn z h; have := p1 n; exact Bnd.str (hn z h).1 (by omega)
  | turned a ih => intro n hd h; cases n with
    | zero => exact absurd hd (Nat.not_succ_le_zero _)
    | succ n => exact t2 n _ _ (by decide +kernel) (by decide) (ih n (Nat.le_of_succ_le_succ hd) h)
  | times i a ih => intro n hd h; cases n with
    | zero => exact absurd hd (Nat.not_succ_le_zero _)
    | succ n => exact t3 n _ _ _ (by decide +kernel) (by decide) (Bnd.int (by have := h.1; omega)) (ih n (Nat.le_of_succ_le_succ hd) h.2)
  | up i a ih => intro n hd h; cases n with
    | zero => exact absurd hd (Nat.not_succ_le_zero _)
    | succ n => exact t3 n _ _ _ (by decide +kernel) (by decide) (Bnd.int (by have := h.1; omega)) (ih n (Nat.le_of_succ_le_succ hd) h.2)
  | down i a ih => intro n hd h; cases n with
    | zero => exact absurd hd (Nat.not_succ_le_zero _)
    | succ n => exact t3 n _ _ _ (by decide +kernel) (by decide) (Bnd.int (by have := h.1; omega)) (ih n (Nat.le_of_succ_le_succ hd) h.2)
  | bin o a b iha ihb => intro n hd h; cases n with
    | zero => exact absurd hd (Nat.not_succ_le_zero _)
    | succ n =>
      have hd : max a.depth b.depth ≤ n := Nat.le_of_succ_le_succ hd
      exact t3 n _ _ _ (by cases o <;> decide +kernel) (by cases o <;> decide) (iha n (by omega) h.1) (ihb n (by omega) h.2)
end Et
end Hw

set_option Elab.async false
set_option linter.all false
set_option maxRecDepth 100000
set_option maxHeartbeats 4000000
/-! gathered sums (pure); an own list of own pairs -/
namespace Hw
open PySem PySem.Spec PyProof.Rows L2
abbrev Acc := List (Et × Int)
def addA : Acc → Et → Int → Acc
  | [], e, k => [(e, k)]
  | p :: r, e, k => if p.1 = e then (p.1, p.2 + k) :: r else p :: addA r e k
theorem addA_cases : ∀ (acc : Acc) (e : Et), (∃ (j : Nat) (x : Int), acc[j]? = some (e, x) ∧ (∀ m q, m < j → acc[m]? = some q → q.1 ≠ e) ∧ ∀ k, addA acc e k = acc.set j (e, x + k)) ∨ ((∀ q ∈ acc, q.1 ≠ e) ∧ ∀ k, addA acc e k = acc ++ [(e, k)])
  | [], e => .inr ⟨fun _ h => (nomatch h), fun _ => rfl⟩
  | p :: r, e => by
    by_cases h : p.1 = e
    · refine .inl ⟨0, p.2, by rw [← h]; rfl, fun m q hm => absurd hm (Nat.not_lt_zero _), fun k => ?_⟩
      rw [addA, if_pos h, h]; rfl
    · rcases addA_cases r e with ⟨j, x, h1, h2, h3⟩ | ⟨h1, h2⟩
      · refine .inl ⟨j + 1, x, h1, fun m q hm hq => ?_, fun k => by rw [addA, if_neg h, h3 k]; rfl⟩
        cases m with
        | zero => cases hq; exact h
        | succ m => exact h2 m q (by omega) hq
      · exact .inr ⟨fun q hq => by
          rcases List.mem_cons.mp hq with z | z
          · rw [z]; exact h
          · exact h1 q z, fun k => by rw [addA, if_neg h, h2 k]; rfl⟩
theorem addA_len (acc : Acc) (e : Et) (k : Int) : (addA acc e k).length ≤ acc.length + 1 := by
  rcases addA_cases acc e with ⟨j, x, _, _, h⟩ | ⟨_, h⟩
  · rw [h k, List.length_set]; omega
  · rw [h k, List.length_append]; exact Nat.le_refl _
theorem addA_mem {acc : Acc} {e : Et} {k : Int} {P : Et → Prop} (h : ∀ p ∈ acc, P p.1) (he : P e) : ∀ p ∈ addA acc e k, P p.1 := by
  intro p hp
  rcases addA_cases acc e with ⟨j, x, _, _, h2⟩ | ⟨_, h2⟩
  · rw [h2 k] at hp
    rcases List.mem_or_eq_of_mem_set hp with z | z
    · exact h p z
    · rw [z]; exact he
  · rw [h2 k] at hp
    rcases List.mem_append.mp hp with z | z
    · exact h p z
    · rw [List.mem_singleton.mp z]; exact he
def gat : Et → Int → Acc → Int × Acc
  | .int i, k, acc => (k * i, acc)
  | .nm z, k, acc => (0, addA acc (.nm z) k)
  | .turned a, k, acc => ((gat a (-k) acc).1 - k, (gat a (-k) acc).2)
  | .times i a, k, acc => gat a (k * i) acc
  | .up n a, k, acc => gat a (k * 2 ^ n) acc
  | .down n a, k, acc => (0, addA acc (.down n a) k)
  | .bin .plus a b, k, acc => ((gat a k acc).1 + (gat b k (gat a k acc).2).1, (gat b k (gat a k acc).2).2)
  | .bin .minus a b, k, acc => ((gat a k acc).1 + (gat b (-k) (gat a k acc).2).1, (gat b (-k) (gat a k acc).2).2)
  | .bin .both a b, k, acc => (0, addA acc (.bin .both a b) k)
  | .bin .either a b, k, acc => (0, addA acc (.bin .either a b) k)
  | .bin .unlike a b, k, acc => (0, addA acc (.bin .unlike a b) k)
theorem gat_len : ∀ (e : Et) (k : Int) (acc : Acc), (gat e k acc).2.length ≤ acc.length + 2 ^ e.depth
  | .int i, k, acc => Nat.le_add_right _ _
  | .nm z, k, acc => addA_len _ _ _
  | .turned a, k, acc => by have := gat_len a (-k) acc; show (gat a (-k) acc).2.length ≤ acc.length + 2 ^ (a.depth + 1); rw [Nat.pow_succ]; omega
  | .times i a, k, acc => by have := gat_len a (k * i) acc; show _ ≤ acc.length + 2 ^ (a.depth + 1); rw [Nat.pow_succ]; show _ ≤ _; unfold gat; omega
  | .up i a, k, acc => by have := gat_len a (k * 2 ^ i) acc; show _ ≤ acc.length + 2 ^ (a.depth + 1); rw [Nat.pow_succ]; show _ ≤ _; unfold gat; omega
  | .down n a, k, acc => Nat.le_trans (addA_len _ _ _) (by have := Nat.pow_pos (n := (Et.down n a).depth) (show 0 < 2 by decide); omega)
  | .bin .plus a b, k, acc => by
    have h1 := gat_len a k acc
    have h2 := gat_len b k (gat a k acc).2
    show _ ≤ acc.length + 2 ^ (max a.depth b.depth + 1)
    have h3 := Nat.pow_le_pow_right (n := 2) (by decide) (Nat.le_max_left a.depth b.depth)
    have h4 := Nat.pow_le_pow_right (n := 2) (by decide) (Nat.le_max_right a.depth b.depth)
    rw [Nat.pow_succ]
    unfold gat
    simp only
    omega
  | .bin .minus a b, k, acc => by
    have h1 := gat_len a k acc
    have h2 := gat_len b (-k) (gat a k acc).2
    show _ ≤ acc.length + 2 ^ (max a.depth b.depth + 1)
    have h3 := Nat.pow_le_pow_right (n := 2) (by decide) (Nat.le_max_left a.depth b.depth)
    have h4 := Nat.pow_le_pow_right (n := 2) (by decide) (Nat.le_max_right a.depth b.depth)
    rw [Nat.pow_succ]
    unfold gat
    simp only
    omega
  | .bin .both a b, k, acc => Nat.le_trans (addA_len _ _ _) (by have := Nat.pow_pos (n := (Et.bin .both a b).depth) (show 0 < 2 by decide); omega)
  | .bin .either a b, k, acc => Nat.le_trans (addA_len _ _ _) (by have := Nat.pow_pos (n := (Et.bin .either a b).depth) (show 0 < 2 by decide); omega)
  | .bin .unlike a b, k, acc => Nat.le_trans (addA_len _ _ _) (by have := Nat.pow_pos (n := (Et.bin .unlike a b).depth) (show 0 < 2 by decide); omega)
/-- what stands in the sum: names of the list, not nested deeper -/
def Good (ns : List Str) (m : Nat) (acc : Acc) : Prop := ∀ p ∈ acc, p.1.ok ns ∧ p.1.depth ≤ m
theorem gat_good {ns : List Str} {m : Nat} : ∀ (e : Et) (k : Int) (acc : Acc), e.ok ns → e.depth ≤ m → Good ns m acc → Good ns m (gat e k acc).2
  | .int i, k, acc, _, _, h => h
  | .nm z, k, acc, h1, h2, h => addA_mem (P := fun e => e.ok ns ∧ e.depth ≤ m) h ⟨h1, h2⟩
  | .turned a, k, acc, h1, h2, h => gat_good a (-k) acc h1 (Nat.le_of_succ_le h2) h
  | .times i a, k, acc, h1, h2, h => gat_good a (k * i) acc h1.2 (Nat.le_of_succ_le h2) h
  | .up n a, k, acc, h1, h2, h => gat_good a (k * 2 ^ n) acc h1.2 (Nat.le_of_succ_le h2) h
  | .down n a, k, acc, h1, h2, h => addA_mem (P := fun e => e.ok ns ∧ e.depth ≤ m) h ⟨h1, h2⟩
  | .bin .plus a b, k, acc, h1, h2, h => by
    have h2 : max a.depth b.depth + 1 ≤ m := h2
    exact gat_good b k _ h1.2 (by omega) (gat_good a k acc h1.1 (by omega) h)
  | .bin .minus a b, k, acc, h1, h2, h => by
    have h2 : max a.depth b.depth + 1 ≤ m := h2
    exact gat_good b (-k) _ h1.2 (by omega) (gat_good a k acc h1.1 (by omega) h)
  | .bin .both a b, k, acc, h1, h2, h => addA_mem (P := fun e => e.ok ns ∧ e.depth ≤ m) h ⟨h1, h2⟩
  | .bin .either a b, k, acc, h1, h2, h => addA_mem (P := fun e => e.ok ns ∧ e.depth ≤ m) h ⟨h1, h2⟩
  | .bin .unlike a b, k, acc, h1, h2, h => addA_mem (P := fun e => e.ok ns ∧ e.depth ≤ m) h ⟨h1, h2⟩
theorem set_fst : ∀ (acc : Acc) (j : Nat) (e : Et) (x y : Int), acc[j]? = some (e, x) → (acc.set j (e, y)).map (·.1) = acc.map (·.1)
  | [], j, e, x, y, h => by simp at h
  | p :: r, 0, e, x, y, h => by cases h; rfl
  | p :: r, j + 1, e, x, y, h => by show p.1 :: (r.set j (e, y)).map (·.1) = _; rw [set_fst r j e x y h]; rfl
theorem addA_nodup {acc : Acc} {e : Et} {k : Int} (h : (acc.map (·.1)).Nodup) : ((addA acc e k).map (·.1)).Nodup := by
  rcases addA_cases acc e with ⟨j, x, h1, _, h2⟩ | ⟨h1, h2⟩
  · rw [h2 k, set_fst acc j e x _ h1]; exact h
  · rw [h2 k, List.map_append]
    refine List.nodup_append.mpr ⟨h, by simp, fun a ha b hb => ?_⟩
    obtain ⟨q, hq, rfl⟩ := List.mem_map.mp ha
    rw [List.mem_singleton.mp (show b ∈ [e] from hb)]
    exact h1 q hq
theorem gat_nodup : ∀ (e : Et) (k : Int) (acc : Acc), (acc.map (·.1)).Nodup → ((gat e k acc).2.map (·.1)).Nodup
  | .int i, k, acc, h => h
  | .nm z, k, acc, h => addA_nodup h
  | .turned a, k, acc, h => gat_nodup a (-k) acc h
  | .times i a, k, acc, h => gat_nodup a (k * i) acc h
  | .up n a, k, acc, h => gat_nodup a (k * 2 ^ n) acc h
  | .down n a, k, acc, h => addA_nodup h
  | .bin .plus a b, k, acc, h => gat_nodup b k _ (gat_nodup a k acc h)
  | .bin .minus a b, k, acc, h => gat_nodup b (-k) _ (gat_nodup a k acc h)
  | .bin .both a b, k, acc, h => addA_nodup h
  | .bin .either a b, k, acc, h => addA_nodup h
  | .bin .unlike a b, k, acc, h => addA_nodup h
/-- a sum of the entries -/
def tot (f : Et → Int) (acc : Acc) : Int := (acc.map fun p => p.2 * f p.1).sum
theorem tot_add (f : Et → Int) : ∀ (acc : Acc) (e : Et) (k : Int), tot f (addA acc e k) = tot f acc + k * f e
  | [], e, k => by simp [tot, addA]
  | p :: r, e, k => by
    have ih := tot_add f r e k
    unfold tot at ih ⊢
    rw [addA]
    by_cases h : p.1 = e
    · rw [if_pos h, List.map_cons, List.sum_cons, List.map_cons, List.sum_cons, h, Int.add_mul]
      omega
    · rw [if_neg h, List.map_cons, List.sum_cons, List.map_cons, List.sum_cons, ih]
      omega
/-- small numbers -/
theorem gat_small {B : Nat} : ∀ (acc : Acc), True := fun _ => trivial
/-! own lists walked -/
section
variable {g : GS} {te : TE} {KF : PySem.W.Frag} {O : Out} {tg : TG} {tb : TS} {a : Addr} {ss : List Sl}
theorem SX.forO (h : EX te g (.con (.ref a))) (n0 : Nat) (h0 : g.ow[n0]? = some (a, .lst ss)) (inv : Nat → GS → Prop) (hi0 : inv 0 g) (at_ : ∀ i g', inv i g' → ∃ n : Nat, g'.ow[n]? = some (a, OD.lst ss))
    (turn : ∀ i s g', ss[i]? = some s → inv i g' → GX tg s g' fun g2 => SX tb g2 { O with nx := inv (i + 1), ct := inv (i + 1), bk := O.nx }) (hd : ∀ g', inv ss.length g' → O.nx g') : SX (tFor (iList KF te) tg tb) g O := fun H0 σ H D sat r => by
  refine h.go sat fun x H1 sat1 sm1 hx => ?_
  cases (show x = V.ref a from hx)
  obtain ⟨vs0, h3, _⟩ := sat1.ow _ (List.mem_of_getElem? h0)
  refine ⟨a, rfl, ⟨vs0, .inl (.inl h3)⟩, ?_⟩
  refine ⟨fun i m σ' H' => m = ss.length - i ∧ i ≤ ss.length ∧ ∃ g', inv i g' ∧ Sat H0 g' σ' H' ∧ Same (offs g.l H1) (offs g'.l H'), ⟨_, rfl, Nat.zero_le _, g, hi0, sat1, Same.refl _⟩, ?_⟩
  rintro i m σ' H' ⟨rfl, hi, g', hv, sat', sm'⟩
  obtain ⟨n, hn⟩ := at_ i g' hv
  obtain ⟨vs, h4, h5⟩ := sat'.ow _ (List.mem_of_getElem? hn)
  have sq : SqL KF H' a vs := .inl (.inl h4)
  by_cases hlt : i < ss.length
  · obtain ⟨s, hs⟩ : ∃ s, ss[i]? = some s := ⟨_, List.getElem?_eq_getElem hlt⟩
    obtain ⟨y, hy, hh⟩ := h5.get hs
    refine .inr ⟨⟨vs, y, sq, hy⟩, fun σ2 H2 => ∃ g2, inv (i + 1) g2 ∧ Sat H0 g2 σ2 H2 ∧ Same (offs g.l H1) (offs g2.l H2), fun σ2 H2 h2 => ⟨ss.length - (i + 1), by omega, rfl, hlt, h2⟩, ?_⟩
    rintro x H3 ⟨rfl, hl⟩
    have ex := hl vs sq
    rw [hy] at ex
    cases ex
    refine turn i s g' hs hv H0 σ' H3 _ _ sat' hh fun g4 σ4 H4 k4 sat4 sm4 => ?_
    have sm14 := sm'.trans sm4
    exact k4 H0 σ4 H4 _ sat4 ⟨fun g5 σ5 H5 h5 sat5 sm5 => ⟨g5, h5, sat5, sm14.trans sm5⟩, fun s g5 σ5 x H5 h5 sat5 sm5 => r.rt s g5 σ5 x H5 h5 sat5 (sm1.trans (sm14.trans sm5)),
      fun g5 σ5 H5 h5 sat5 sm5 => r.nx g5 σ5 H5 h5 sat5 (sm1.trans (sm14.trans sm5)), fun g5 σ5 H5 h5 sat5 sm5 => ⟨g5, h5, sat5, sm14.trans sm5⟩⟩
  · have e : i = ss.length := by omega
    subst e
    exact .inl ⟨⟨vs, sq, by rw [h5.len]; exact Nat.le_refl _⟩, r.nx g' σ' H' (hd g' hv) sat' (sm1.trans sm')⟩
/-- an own list of own lists -/
structure Row where
  r : Addr
  ds : List PyData
def rowsO (rows : List Row) (fa : Addr) : List (Addr × OD) := rows.reverse.map (fun q => (q.r, .lst (q.ds.map Sl.dat))) ++ [(fa, .lst (rows.map fun q => .con (.ref q.r)))]
theorem rowsO_out (rows : List Row) (fa : Addr) : (rowsO rows fa)[rows.length]? = some (fa, .lst (rows.map fun q => .con (.ref q.r))) := by
  unfold rowsO
  rw [List.getElem?_append_right (by simp)]
  simp
theorem rowsO_at {rows : List Row} {fa : Addr} {i : Nat} {q : Row} (h : rows[i]? = some q) : (rowsO rows fa)[rows.length - 1 - i]? = some (q.r, .lst (q.ds.map Sl.dat)) := by
  have hl := (List.getElem?_eq_some_iff.mp h).1
  unfold rowsO
  rw [List.getElem?_append_left (by simp; omega), List.getElem?_map, List.getElem?_reverse (by omega), show rows.length - 1 - (rows.length - 1 - i) = i by omega, h]
  rfl
theorem rowsO_set {rows : List Row} {fa : Addr} {i : Nat} {q : Row} (h : rows[i]? = some q) (ds : List PyData) : (rowsO rows fa).set (rows.length - 1 - i) (q.r, .lst (ds.map Sl.dat)) = rowsO (rows.set i ⟨q.r, ds⟩) fa := by
  have hl := (List.getElem?_eq_some_iff.mp h).1
  have e1 : ((rows.set i ⟨q.r, ds⟩).map fun q => Sl.con (.ref q.r)) = rows.map fun q => Sl.con (.ref q.r) := by
    apply List.ext_getElem?
    intro j
    rw [List.getElem?_map, List.getElem?_map, List.getElem?_set]
    by_cases e : i = j
    · subst e; rw [if_pos rfl, if_pos hl, h]; rfl
    · rw [if_neg e]
  unfold rowsO
  rw [e1, List.set_append_left _ _ (by simp; omega)]
  congr 1
  apply List.ext_getElem?
  intro j
  rw [List.getElem?_set, List.getElem?_map, List.getElem?_map]
  by_cases hj : j < rows.length
  · rw [List.getElem?_reverse hj, List.getElem?_reverse (by rw [List.length_set]; exact hj), List.length_set, List.getElem?_set, List.length_map, List.length_reverse]
    by_cases e : rows.length - 1 - i = j
    · rw [if_pos e, if_pos (by omega), if_pos (by omega), if_pos hl]
      rfl
    · rw [if_neg e, if_neg (by omega)]
  · rw [if_neg (by omega), List.getElem?_eq_none (by simp; omega), List.getElem?_eq_none (by simp; omega)]
theorem rowsO_add (rows : List Row) (fa : Addr) (r : Addr) (ds : List PyData) : ((r, .lst (ds.map Sl.dat)) :: rowsO rows fa).set (rows.length + 1) (fa, .lst ((rows.map fun q => .con (.ref q.r)) ++ [.con (.ref r)])) = rowsO (rows ++ [⟨r, ds⟩]) fa := by
  unfold rowsO
  rw [List.set_cons_succ, List.set_append_right _ _ (by simp)]
  simp
/-- all one's own is let go -/
theorem SX.freezeRows {rows : List Row} {t : TS} {j : Nat} (ho : g.ow = rowsO rows a) (hj : g.sl[j]? = some (.con (.ref a))) (k : SX t { g with ow := [], sl := g.sl.set j (.dat (.list (rows.map fun q => .list q.ds))) } O) : SX t g O := fun H0 σ H D sat r => by
  have lmem : ∀ b, b ∈ ({ g with ow := [], sl := g.sl.set j (.dat (.list (rows.map fun q => .list q.ds))) } : GS).l → b ∈ g.l := fun b hb => List.mem_append_right _ hb
  have sm : Same (offs g.l H) (offs ({ g with ow := [], sl := g.sl.set j (.dat (.list (rows.map fun q => .list q.ds))) } : GS).l H) := fun b u hb => by
    obtain ⟨nb, hb⟩ := offs_at hb
    exact offs_of (fun z => nb (lmem b z)) hb
  have nd := sat.nd
  have notl : ∀ p o, (p, o) ∈ g.ow → p ∉ ({ g with ow := [], sl := g.sl.set j (.dat (.list (rows.map fun q => .list q.ds))) } : GS).l := fun p o hp hq =>
    (List.nodup_append.mp nd).2.2 p (List.mem_map.mpr ⟨_, hp, rfl⟩) p hq rfl
  have outer : (a, OD.lst (rows.map fun q => .con (.ref q.r))) ∈ g.ow := by rw [ho]; exact List.mem_of_getElem? (rowsO_out rows a)
  obtain ⟨vs, h1, h2⟩ := sat.ow _ outer
  have inner : ∀ q ∈ rows, Dt (offs ({ g with ow := [], sl := g.sl.set j (.dat (.list (rows.map fun q => .list q.ds))) } : GS).l H) (.ref q.r) (.list q.ds) := fun q hq => by
    obtain ⟨i, hi⟩ := List.getElem?_of_mem hq
    have hm : (q.r, OD.lst (q.ds.map Sl.dat)) ∈ g.ow := by rw [ho]; exact List.mem_of_getElem? (rowsO_at hi)
    obtain ⟨ws, h3, h4⟩ := sat.ow _ hm
    exact .lst (offs_of (notl _ _ hm) h3) (h4.dats.to sm)
  have all : ∀ (l : List Row) (ws : List V), (∀ q ∈ l, q ∈ rows) → HoldA g.l H ws (l.map fun q => .con (.ref q.r)) → DtAll (offs ({ g with ow := [], sl := g.sl.set j (.dat (.list (rows.map fun q => .list q.ds))) } : GS).l H) ws (l.map fun q => .list q.ds) := by
    intro l
    induction l with
    | nil => intro ws _ h; cases h; exact .nil
    | cons q r ih =>
      intro ws hm h
      cases h with
      | cons h5 h6 =>
        cases (show _ = V.ref q.r from h5)
        exact .cons (inner q (hm q (List.mem_cons_self ..))) (ih _ (fun x hx => hm x (List.mem_cons_of_mem _ hx)) h6)
  have dt : Dt (offs ({ g with ow := [], sl := g.sl.set j (.dat (.list (rows.map fun q => .list q.ds))) } : GS).l H) (.ref a) (.list (rows.map fun q => .list q.ds)) := .lst (offs_of (notl _ _ outer) h1) (all rows vs (fun _ h => h) h2)
  refine k H0 σ H D ⟨by rw [sat.len]; show g.sl.length = (g.sl.set j _).length; rw [List.length_set], fun i s hs ns => ?_, fun q hq => (nomatch hq), sat.gn, (List.nodup_append.mp nd).2.1, fun b hb => sat.dom b (lmem b hb), sat.same, fun b hb => sat.fresh b (List.mem_append_right _ hb)⟩ (r.to sm)
  have hs : (g.sl.set j (.dat (.list (rows.map fun q => .list q.ds))))[i]? = some s := hs
  rw [List.getElem?_set] at hs
  by_cases e : j = i
  · rw [if_pos e] at hs
    split at hs
    · cases hs
      obtain ⟨v, h3, h4⟩ := sat.sl i _ (e ▸ hj) (by intro z; cases z)
      cases (show v = V.ref a from h4)
      exact ⟨_, h3, dt⟩
    · cases hs
  · rw [if_neg e] at hs
    obtain ⟨v, h3, h4⟩ := sat.sl i s hs ns
    exact ⟨v, h3, h4.to sm⟩
end
end Hw
namespace Hw
open PySem PySem.Spec PyProof.Rows L2
section
variable {g : GS} {te ta tb : TE} {KF : PySem.W.Frag} {a : Addr} {ss : List Sl} {s : Sl} {n0 j : Nat}
theorem EX.ixQO (h : EX ta g (.con (.ref a))) (h0 : g.ow[n0]? = some (a, .lst ss)) (k : EX tb g (.dat (.int j))) (e : ss[j]? = some s) : EX (tOp (rIx KF) ta tb) g s := h.op k fun H0 σ H x y Q sat hx hy q => by
  cases (show x = .ref a from hx)
  obtain ⟨vs, h3, h4⟩ := sat.ow _ (List.mem_of_getElem? h0)
  obtain ⟨v, h5, h6⟩ := h4.get e
  exact .inl ⟨a, vs, j, v, rfl, hold_int hy, .inl (.inl h3), atI_nat h5, q v H (Same.refl _) h6⟩
theorem IT.zipA {t : TA} {ds es : List PyData} (h : EAX t g [.dat (.list ds), .dat (.list es)]) : IT (RZ.iZipA KF t) g (zipS ds es) := fun H0 σ H R sat q => by
  refine h H0 σ H _ sat fun xs H1 ss g1 k _ sat1 sm1 hx => ?_
  obtain ⟨rfl, rfl⟩ := k
  cases hx with
  | cons a1 a2 =>
    cases a2 with
    | cons a2 a3 =>
      cases a3
      cases a1 with
      | lst b1 b2 =>
        cases a2 with
        | lst c1 c2 => exact ⟨_, _, _, _, rfl, .inl ⟨.inl (.inl (offs_at b1).2), .inl (.inl (offs_at c1).2), q _ H1 sat1 sm1 (walks_zip b1 b2 c1 c2)⟩⟩
end
/-! ### values (pure) -/
def lvN (w : Nat) (ρ : Str → Nat) : Et → Nat
  | .int i => (i % 2 ^ w).toNat
  | .nm z => ρ z
  | .turned a => 2 ^ w - 1 - lvN w ρ a
  | .times i a => (((lvN w ρ a : Nat) : Int) * i % 2 ^ w).toNat
  | .up n a => lvN w ρ a * 2 ^ n % 2 ^ w
  | .down n a => lvN w ρ a / 2 ^ n
  | .bin .plus a b => (lvN w ρ a + lvN w ρ b) % 2 ^ w
  | .bin .minus a b => ((((lvN w ρ a : Nat) : Int) - (lvN w ρ b : Nat)) % 2 ^ w).toNat
  | .bin .both a b => lvN w ρ a &&& lvN w ρ b
  | .bin .either a b => lvN w ρ a ||| lvN w ρ b
  | .bin .unlike a b => lvN w ρ a ^^^ lvN w ρ b
section
variable {w : Nat} {ρ : Str → Nat} {ns : List Str}
theorem p2pos (w : Nat) : (0 : Int) < 2 ^ w := Int.pow_pos (by decide)
theorem p2cast (w : Nat) : ((2 ^ w : Nat) : Int) = (2 : Int) ^ w := by rw [Int.natCast_pow]; rfl
theorem emod_nat (x : Int) (w : Nat) : ((x % 2 ^ w).toNat : Int) = x % 2 ^ w := Int.toNat_of_nonneg (Int.emod_nonneg _ (by have := p2pos w; omega))
theorem emod_lt (x : Int) (w : Nat) : (x % 2 ^ w).toNat < 2 ^ w := by
  have h1 := emod_nat x w
  have h2 := Int.emod_lt_of_pos x (p2pos w)
  have h3 := p2cast w
  omega
theorem lvN_lt (h : ∀ z ∈ ns, ρ z < 2 ^ w) : ∀ e : Et, e.ok ns → lvN w ρ e < 2 ^ w
  | .int i, _ => emod_lt _ _
  | .nm z, k => h z k
  | .turned a, _ => by have := Nat.pow_pos (n := w) (show 0 < 2 by decide); show 2 ^ w - 1 - _ < _; omega
  | .times i a, _ => emod_lt _ _
  | .up n a, _ => Nat.mod_lt _ (Nat.pow_pos (by decide))
  | .down n a, k => Nat.lt_of_le_of_lt (Nat.div_le_self _ _) (lvN_lt h a k.2)
  | .bin .plus a b, _ => Nat.mod_lt _ (Nat.pow_pos (by decide))
  | .bin .minus a b, _ => emod_lt _ _
  | .bin .both a b, k => Nat.and_lt_two_pow _ (lvN_lt h b k.2)
  | .bin .either a b, k => Nat.or_lt_two_pow (lvN_lt h a k.1) (lvN_lt h b k.2)
  | .bin .unlike a b, k => Nat.xor_lt_two_pow (lvN_lt h a k.1) (lvN_lt h b k.2)
/-- what is gathered has the value, by 2 ^ w -/
theorem gat_val (h : ∀ z ∈ ns, ρ z < 2 ^ w) : ∀ (e : Et) (k : Int) (acc : Acc), e.ok ns → (2 ^ w : Int) ∣ (gat e k acc).1 + tot (fun e => (lvN w ρ e : Nat)) (gat e k acc).2 - (tot (fun e => (lvN w ρ e : Nat)) acc + k * (lvN w ρ e : Nat)) := by
  have leaf : ∀ (e : Et) (k : Int) (acc : Acc), (2 ^ w : Int) ∣ 0 + tot (fun e => (lvN w ρ e : Nat)) (addA acc e k) - (tot (fun e => (lvN w ρ e : Nat)) acc + k * (lvN w ρ e : Nat)) := fun e k acc => by
    rw [tot_add]
    exact ⟨0, by omega⟩
  have md : ∀ x : Int, ∃ q, x = ((x % 2 ^ w).toNat : Int) + 2 ^ w * q := fun x => ⟨x / 2 ^ w, by rw [emod_nat]; exact (Int.emod_add_mul_ediv x _).symm⟩
  intro e
  induction e with
  | int i =>
    intro k acc _
    obtain ⟨q, hq⟩ := md i
    refine ⟨k * q, ?_⟩
    show k * i + tot _ acc - (tot _ acc + k * ((i % 2 ^ w).toNat : Int)) = _
    generalize ((i % 2 ^ w).toNat : Int) = v at hq
    rw [hq, Int.mul_add, ← Int.mul_assoc, Int.mul_comm k (2 ^ w), Int.mul_assoc]
    omega
  | nm z => intro k acc _; exact leaf _ _ _
  | turned a ih =>
    intro k acc hk
    obtain ⟨q, hq⟩ := ih (-k) acc hk
    have hl := lvN_lt h a hk
    refine ⟨q - k, ?_⟩
    show (gat a (-k) acc).1 - k + tot _ (gat a (-k) acc).2 - (tot _ acc + k * ((2 ^ w - 1 - lvN w ρ a : Nat) : Int)) = _
    have e1 : ((2 ^ w - 1 - lvN w ρ a : Nat) : Int) = 2 ^ w - 1 - (lvN w ρ a : Nat) := by have := p2cast w; omega
    rw [e1, Int.mul_sub, Int.mul_sub, Int.mul_sub, Int.mul_one, ← hq, Int.neg_mul, Int.mul_comm (2 ^ w) k]
    omega
  | times i a ih =>
    intro k acc hk
    obtain ⟨q, hq⟩ := ih (k * i) acc hk.2
    obtain ⟨r, hr⟩ := md ((lvN w ρ a : Nat) * i)
    refine ⟨q + k * r, ?_⟩
    show (gat a (k * i) acc).1 + tot _ (gat a (k * i) acc).2 - (tot _ acc + k * (((lvN w ρ a : Nat) * i % 2 ^ w).toNat : Int)) = _
    have e2 : k * i * (lvN w ρ a : Nat) = k * (((lvN w ρ a : Nat) * i % 2 ^ w).toNat : Int) + 2 ^ w * (k * r) := by
      rw [Int.mul_assoc, Int.mul_comm i]
      refine (congrArg (fun t => k * t) hr).trans ?_
      generalize ((((lvN w ρ a : Nat) : Int) * i % 2 ^ w).toNat : Int) = v
      show k * (v + 2 ^ w * r) = _
      rw [Int.mul_add, ← Int.mul_assoc k, Int.mul_comm k (2 ^ w), Int.mul_assoc]
    rw [Int.mul_add, ← hq, e2]
    omega
  | up n a ih =>
    intro k acc hk
    obtain ⟨q, hq⟩ := ih (k * 2 ^ n) acc hk.2
    have e1 : ((lvN w ρ a * 2 ^ n % 2 ^ w : Nat) : Int) = ((lvN w ρ a : Nat) * 2 ^ n : Int) % 2 ^ w := by
      rw [Int.natCast_emod, Int.natCast_mul, p2cast, p2cast]
    obtain ⟨r, hr⟩ : ∃ r : Int, ((lvN w ρ a : Nat) * 2 ^ n : Int) = ((lvN w ρ a * 2 ^ n % 2 ^ w : Nat) : Int) + 2 ^ w * r := ⟨_, by rw [e1]; exact (Int.emod_add_mul_ediv _ _).symm⟩
    refine ⟨q + k * r, ?_⟩
    show (gat a (k * 2 ^ n) acc).1 + tot _ (gat a (k * 2 ^ n) acc).2 - (tot _ acc + k * ((lvN w ρ a * 2 ^ n % 2 ^ w : Nat) : Int)) = _
    have e2 : k * 2 ^ n * (lvN w ρ a : Nat) = k * ((lvN w ρ a * 2 ^ n % 2 ^ w : Nat) : Int) + 2 ^ w * (k * r) := by
      rw [Int.mul_assoc, Int.mul_comm (2 ^ n), hr]
      generalize ((lvN w ρ a * 2 ^ n % 2 ^ w : Nat) : Int) = v
      rw [Int.mul_add, ← Int.mul_assoc k, Int.mul_comm k (2 ^ w), Int.mul_assoc]
    rw [Int.mul_add, ← hq, e2]
    omega
  | down n a _ => intro k acc _; exact leaf _ _ _
  | bin o a b iha ihb =>
    intro k acc hk
    cases o with
    | plus =>
      obtain ⟨q, hq⟩ := iha k acc hk.1
      obtain ⟨q2, hq2⟩ := ihb k (gat a k acc).2 hk.2
      have e1 : (((lvN w ρ a + lvN w ρ b) % 2 ^ w : Nat) : Int) = ((lvN w ρ a : Nat) + (lvN w ρ b : Nat) : Int) % 2 ^ w := by
        rw [Int.natCast_emod, Int.natCast_add, p2cast]
      obtain ⟨r, hr⟩ : ∃ r : Int, ((lvN w ρ a : Nat) + (lvN w ρ b : Nat) : Int) = (((lvN w ρ a + lvN w ρ b) % 2 ^ w : Nat) : Int) + 2 ^ w * r := ⟨_, by rw [e1]; exact (Int.emod_add_mul_ediv _ _).symm⟩
      refine ⟨q + q2 + k * r, ?_⟩
      show (gat a k acc).1 + (gat b k (gat a k acc).2).1 + tot _ (gat b k (gat a k acc).2).2 - (tot _ acc + k * (((lvN w ρ a + lvN w ρ b) % 2 ^ w : Nat) : Int)) = _
      have e2 : k * (lvN w ρ a : Nat) + k * (lvN w ρ b : Nat) = k * (((lvN w ρ a + lvN w ρ b) % 2 ^ w : Nat) : Int) + 2 ^ w * (k * r) := by
        rw [← Int.mul_add, hr]
        generalize (((lvN w ρ a + lvN w ρ b) % 2 ^ w : Nat) : Int) = v
        rw [Int.mul_add, ← Int.mul_assoc k, Int.mul_comm k (2 ^ w), Int.mul_assoc]
      rw [Int.mul_add, Int.mul_add, ← hq, ← hq2]
      omega
    | minus =>
      obtain ⟨q, hq⟩ := iha k acc hk.1
      obtain ⟨q2, hq2⟩ := ihb (-k) (gat a k acc).2 hk.2
      obtain ⟨r, hr⟩ := md (((lvN w ρ a : Nat) : Int) - (lvN w ρ b : Nat))
      refine ⟨q + q2 + k * r, ?_⟩
      show (gat a k acc).1 + (gat b (-k) (gat a k acc).2).1 + tot _ (gat b (-k) (gat a k acc).2).2 - (tot _ acc + k * ((((lvN w ρ a : Nat) : Int) - (lvN w ρ b : Nat)) % 2 ^ w).toNat) = _
      have e2 : k * (lvN w ρ a : Nat) + -k * (lvN w ρ b : Nat) = k * ((((lvN w ρ a : Nat) : Int) - (lvN w ρ b : Nat)) % 2 ^ w).toNat + 2 ^ w * (k * r) := by
        have : k * (lvN w ρ a : Nat) + -k * (lvN w ρ b : Nat) = k * (((lvN w ρ a : Nat) : Int) - (lvN w ρ b : Nat)) := by rw [Int.mul_sub, Int.neg_mul]; omega
        rw [this]
        refine (congrArg (fun t => k * t) hr).trans ?_
        generalize (((((lvN w ρ a : Nat) : Int) - (lvN w ρ b : Nat)) % 2 ^ w).toNat : Int) = v
        show k * (v + 2 ^ w * r) = _
        rw [Int.mul_add, ← Int.mul_assoc k, Int.mul_comm k (2 ^ w), Int.mul_assoc]
      rw [Int.mul_add, Int.mul_add, ← hq, ← hq2]
      omega
    | both => exact leaf _ _ _
    | either => exact leaf _ _ _
    | unlike => exact leaf _ _ _
end
end Hw

set_option Elab.async false
set_option linter.all false
set_option maxRecDepth 100000
set_option maxHeartbeats 4000000
/-! one sorted list only (pure); what gathered tells -/
namespace Hw
open PySem PySem.Spec PyProof.Rows L2
/-- sorted lists of the same things, with no two alike: one list -/
theorem srt_uniq {α : Type} {lt : α → α → Bool} (asym : ∀ x y, lt x y = false → lt y x = false → x = y) : ∀ l m : List α, l.Perm m → l.Pairwise (fun x y => lt y x = false) → m.Pairwise (fun x y => lt y x = false) → l = m
  | [], m, p, _, _ => p.nil_eq
  | x :: l, [], p, _, _ => absurd p.length_eq (by simp)
  | x :: l, y :: m, p, h, k => by
    obtain ⟨h1, h2⟩ := List.pairwise_cons.mp h
    obtain ⟨k1, k2⟩ := List.pairwise_cons.mp k
    have e : x = y := by
      have hx : x ∈ y :: m := p.mem_iff.mp (List.mem_cons_self ..)
      have hy : y ∈ x :: l := p.mem_iff.mpr (List.mem_cons_self ..)
      rcases List.mem_cons.mp hx with z | z
      · exact z
      · rcases List.mem_cons.mp hy with w | w
        · exact w.symm
        · exact asym x y (k1 x z) (h1 y w)
    subst e
    rw [srt_uniq asym l m p.cons_inv h2 k2]
def ins {α : Type} (lt : α → α → Bool) (x : α) : List α → List α
  | [] => [x]
  | y :: r => if lt y x = true then y :: ins lt x r else x :: y :: r
def srt {α : Type} (lt : α → α → Bool) : List α → List α
  | [] => []
  | x :: r => ins lt x (srt lt r)
theorem ins_perm {α : Type} (lt : α → α → Bool) (x : α) : ∀ l, (ins lt x l).Perm (x :: l)
  | [] => .refl _
  | y :: r => by
    unfold ins
    split
    · exact ((ins_perm lt x r).cons y).trans (.swap ..)
    · exact .refl _
theorem srt_perm {α : Type} (lt : α → α → Bool) : ∀ l, (srt lt l).Perm l
  | [] => .refl _
  | x :: r => (ins_perm lt x _).trans ((srt_perm lt r).cons x)
theorem ins_sorted {α : Type} {lt : α → α → Bool} (irr : ∀ x y, lt x y = true → lt y x = false) (tr : ∀ x y z, lt y x = false → lt z y = false → lt z x = false) (x : α) : ∀ l : List α, l.Pairwise (fun x y => lt y x = false) → (ins lt x l).Pairwise (fun x y => lt y x = false)
  | [], _ => List.pairwise_singleton _ _
  | y :: r, h => by
    obtain ⟨h1, h2⟩ := List.pairwise_cons.mp h
    unfold ins
    split
    · rename_i hy
      refine List.pairwise_cons.mpr ⟨fun z hz => ?_, ins_sorted irr tr x r h2⟩
      rcases List.mem_cons.mp ((ins_perm lt x r).mem_iff.mp hz) with w | w
      · rw [w]; exact irr y x hy
      · exact h1 z w
    · rename_i hy
      have hy : lt y x = false := by cases q : lt y x <;> first | rfl | exact absurd q hy
      refine List.pairwise_cons.mpr ⟨fun z hz => ?_, h⟩
      rcases List.mem_cons.mp hz with w | w
      · rw [w]; exact hy
      · exact tr x y z hy (h1 z w)
theorem srt_sorted {α : Type} {lt : α → α → Bool} (irr : ∀ x y, lt x y = true → lt y x = false) (tr : ∀ x y z, lt y x = false → lt z y = false → lt z x = false) : ∀ l : List α, (srt lt l).Pairwise (fun x y => lt y x = false)
  | [] => List.Pairwise.nil
  | x :: r => ins_sorted irr tr x _ (srt_sorted irr tr r)
theorem ltTI_irr (x y : Str × Int) (h : ltTI x y = true) : ltTI y x = false := (swo_ltTI (fun v => match v with | .int 0 _ => x | _ => y)).1 (.int 0 0) (.int 1 0) h
theorem ltTI_tr (x y z : Str × Int) (h : ltTI y x = false) (k : ltTI z y = false) : ltTI z x = false :=
  (swo_ltTI (fun v => match v with | .int 0 _ => x | .int 1 _ => y | _ => z)).2 (.int 0 0) (.int 1 0) (.int 2 0) h k
theorem ltTI_asym (x y : Str × Int) (h : ltTI x y = false) (k : ltTI y x = false) : x = y := by
  unfold ltTI tokTI at h k
  by_cases e : (Sum.inr x.1.cps.toList : Int ⊕ List Nat) = Sum.inr y.1.cps.toList
  · have e1 : x.1 = y.1 := by
      have := Sum.inr.inj e
      obtain ⟨⟨⟨l⟩⟩, n⟩ := x
      obtain ⟨⟨⟨m⟩⟩, k⟩ := y
      cases (show l = m from this)
      rfl
    rw [e, lex_self (O := itemOrd)] at h k
    have e2 : x.2 = y.2 := by
      refine Classical.byContradiction fun ne => ?_
      rw [lex_diff (O := itemOrd) (fun z => ne (Sum.inl.inj z))] at h
      rw [lex_diff (O := itemOrd) (fun z => ne (Sum.inl.inj z).symm)] at k
      have h : decide (x.2 < y.2) = false := h
      have k : decide (y.2 < x.2) = false := k
      have := of_decide_eq_false h
      have := of_decide_eq_false k
      omega
    exact Prod.ext e1 e2
  · exfalso
    rw [lex_diff (O := itemOrd) e] at h
    rw [lex_diff (O := itemOrd) (fun z => e z.symm)] at k
    have h : decide (x.1.cps.toList < y.1.cps.toList) = false := h
    have k : decide (y.1.cps.toList < x.1.cps.toList) = false := k
    have h := of_decide_eq_false h
    have k := of_decide_eq_false k
    exact e (congrArg Sum.inr (List.le_antisymm (List.not_lt.mp k) (List.not_lt.mp h)))
theorem IT.listM {α : Type} {g : GS} {te : TE} {KF : PySem.W.Frag} {xs : List α} {f : α → PyData} (h : EX te g (.dat (.list (xs.map f)))) : IT (iList KF te) g (xs.map fun x => Sl.dat (f x)) := by
  have := IT.list (KF := KF) h
  rw [List.map_map] at this
  exact this
/-- what is not nought -/
def nz (acc : Acc) : Acc := acc.filter fun p => !decide (p.2 = 0)
def isNm : Et → Bool
  | .nm _ => true
  | _ => false
def nmP (acc : Acc) : List (Str × Int) := (nz acc).filterMap fun p => match p.1 with
  | .nm z => some (z, p.2)
  | _ => none
def termD (p : Et × Int) : PyData := .tuple [.int p.2, p.1.d]
def nmD (x : Str × Int) : PyData := .tuple [.int x.2, .str x.1]
def gathD (e : Et) : PyData := .tuple [.list ((srt ltTI (nmP (gat e 1 []).2)).map nmD ++ ((nz (gat e 1 []).2).filter fun p => !isNm p.1).map termD), .int (gat e 1 []).1]
theorem isNm_d (e : Et) : isStr e.d = isNm e := by cases e <;> rfl
theorem nm_tups : ∀ l : Acc, (l.filter fun p => isNm p.1).map (fun p => PyData.tuple [p.1.d, .int p.2]) = (l.filterMap fun p => match p.1 with | .nm z => some (z, p.2) | _ => none).map tiD
  | [] => rfl
  | (e, k) :: r => by
    have ih := nm_tups r
    cases e with
    | nm z => rw [List.filter_cons_of_pos (by rfl), List.map_cons, ih]; rfl
    | _ => rw [List.filter_cons_of_neg (by simp [isNm]), ih]; rfl
end Hw
namespace Hw
open PySem PySem.Spec PyProof.Rows L2
theorem inV_ints (z : Int) : ∀ ks : List Int, inV (.int z) (ks.map V.int) = ks.contains z
  | [] => rfl
  | k :: r => by
    have ih := inV_ints z r
    unfold inV at ih ⊢
    rw [List.map_cons, List.any_cons, ih, List.contains_cons]
    congr 1
    show decide (k = z) = (z == k)
    by_cases e : k = z
    · rw [e]; simp
    · rw [decide_eq_false e]
      exact (beq_eq_false_iff_ne.mpr fun h => e h.symm).symm
theorem EX.inDI {g : GS} {ta tb : TE} {KF : PySem.W.Frag} {i : Int} {ks : List Int} (h : EX ta g (.dat (.int i))) (k : EX tb g (.dat (.list (ks.map .int)))) : EX (tOp (rIn KF false) ta tb) g (.dat (.bool (ks.contains i))) := h.op k fun H0 σ H x y Q _ a b q => by
  rw [hold_int a]
  cases b with
  | lst h1 h2 =>
    rw [ints_of ks h2] at h1
    refine ⟨_, _, rfl, .inl (.inl (.inl (offs_at h1).2)), rfl, List.all_eq_true.mpr fun v hv => by
      obtain ⟨k, _, rfl⟩ := List.mem_map.mp hv
      rfl, ?_⟩
    rw [if_neg (by decide), inV_ints]
    exact q _ H (Same.refl _) (.bl _)
def Op2.f : Op2 → Nat → Nat → Nat
  | .both, x, y => x &&& y
  | .either, x, y => x ||| y
  | .unlike, x, y => x ^^^ y
  | _, _, _ => 0
def Op2.wants : Op2 → List Int
  | .both => [2]
  | .either => [1, 2]
  | .unlike => [1]
  | _ => []
theorem bits_step (o : Op2) (ho : o = .both ∨ o = .either ∨ o = .unlike) (x y i : Nat) : o.f x y % 2 ^ (i + 1) = o.f x y % 2 ^ i + 2 ^ i * (if o.wants.contains ((((x / 2 ^ i % 2 : Nat) : Int)) + ((y / 2 ^ i % 2 : Nat) : Int)) then 1 else 0) := by
  rw [Nat.mod_pow_succ]
  congr 1
  congr 1
  rw [← Nat.toNat_testBit, ← Nat.toNat_testBit, ← Nat.toNat_testBit]
  rcases ho with rfl | rfl | rfl
  · show ((x &&& y).testBit i).toNat = _
    rw [Nat.testBit_and]
    cases x.testBit i <;> cases y.testBit i <;> rfl
  · show ((x ||| y).testBit i).toNat = _
    rw [Nat.testBit_or]
    cases x.testBit i <;> cases y.testBit i <;> rfl
  · show ((x ^^^ y).testBit i).toNat = _
    rw [Nat.testBit_xor]
    cases x.testBit i <;> cases y.testBit i <;> rfl
/-- the words by their names -/
def rho (kvs : List (Str × Int)) (z : Str) : Nat := ((kvs.lookup z).getD 0).toNat
end Hw
namespace Hw
open PySem PySem.Spec PyProof.Rows L2
theorem EX.mod {g : GS} {ta tb : TE} {i j : Int} (h : EX ta g (.dat (.int i))) (k : EX tb g (.dat (.int j))) (hj : 0 < j) : EX (tOp (rI (fun _ j => 0 < j) fun i j => .int (i % j)) ta tb) g (.dat (.int (i % j))) := h.op k (c_iC (C := fun _ j => 0 < j) (f := fun i j => i % j) hj)
end Hw
namespace Hw
open PySem PySem.Spec PyProof.Rows L2
theorem cut_one (x : PyData) (r : List PyData) : Hw.cutD (x :: r) (some 1) none = r := by
  unfold Hw.cutD
  rw [HT.sIx_none, show HT.sIx (x :: r).length 0 (some 1) = min 1 (x :: r).length from HT.sIx_nat _ _ 1, show min 1 (x :: r).length = 1 by rw [List.length_cons]; omega]
  show (r.take ((x :: r).length - 1)) = r
  exact List.take_of_length_le (by rw [List.length_cons]; omega)
theorem IT.tup1 {g : GS} {te : TE} {KF KG : PySem.W.Frag} {x : PyData} {r : List PyData} {its : List Sl} (h : EX te g (.dat (.tuple (x :: r)))) (e : r.map Sl.dat = its) : IT (iTup KF (tSl (rSlA KG) te (tPart (tC (.int 1))) tNoPart)) g its := by
  rw [← e]
  exact IT.tup ((EX.slT h (EO.some (EX.int 1)) EO.no).dat (congrArg PyData.tuple (cut_one x r)))
end Hw
namespace Hw
open PySem PySem.Spec PyProof.Rows L2
section
variable {g : GS} {te ta tb : TE} {KF : PySem.W.Frag} {K : Sl → GS → Prop} {ds es : List PyData} {d : PyData} {a t L : Addr} {ss : List Sl} {s : Sl} {n0 j N N' : Nat} {ts : TS} {O : Out}
theorem EM.ownCat (h : EM ta g fun s1 g1 => EM tb g1 fun s2 g2 => ∃ ds es, s1 = .dat (.list ds) ∧ s2 = .dat (.list es) ∧ ds.length + es.length ≤ 1000000 ∧ ∀ a, a ∉ g2.l → K (.con (.ref a)) (g2.addO a (.lst ((ds ++ es).map Sl.dat)))) : EM (tOp rCat ta tb) g K := fun H0 σ H Q sat q => by
  refine h H0 σ H _ sat fun x H1 s1 g1 k1 e1 sat1 sm1 h1 => k1 H0 σ H1 _ sat1 fun y H2 s2 g2 k2 e2 sat2 sm2 h2 => ?_
  obtain ⟨ds, es, rfl, rfl, hz, k⟩ := k2
  have h1 := h1.to sm2
  cases h1 with
  | lst a1 a2 =>
    cases h2 with
    | lst b1 b2 =>
      refine ⟨_, _, _, _, rfl, rfl, (offs_at a1).2, (offs_at b1).2, by rw [a2.len, b2.len, sizeLine_eq]; omega, fun p hp => ?_⟩
      exact q _ _ _ _ (k p (sat2.newNot hp)) (e2.trans e1) (sat2.addO hp (same_new' hp) ⟨_, upd_same, (HoldA.of (a2.app b2)).to (offs_cons_new (same_new' hp) hp)⟩) (sm1.trans (sm2.trans (offs_cons_new (same_new' hp) hp))) rfl
theorem EX.ixTO (h : EX ta g (.con (.ref a))) (h0 : g.ow[n0]? = some (a, .tup ss)) (k : EX tb g (.dat (.int j))) (e : ss[j]? = some s) : EX (tOp (rIx KF) ta tb) g s := h.op k fun H0 σ H x y Q sat hx hy q => by
  cases (show x = .ref a from hx)
  obtain ⟨vs, h3, h4⟩ := sat.ow _ (List.mem_of_getElem? h0)
  obtain ⟨v, h5, h6⟩ := h4.get e
  exact .inr (.inl ⟨a, vs, j, v, rfl, hold_int hy, .inl (.inl h3), atI_nat h5, q v H (Same.refl _) h6⟩)
/-- a tuple of an own list and data, as it stands -/
theorem dt_TL {H0 : Hp} {σ : L2.St} {H : Hp} {l : List Addr} {rest : List (Addr × OD)} (sat : Sat H0 g σ H) (ho : g.ow = (t, .tup [.con (.ref L), .dat d]) :: (L, .lst (ds.map Sl.dat)) :: rest) (sm : Same (offs g.l H) (offs l H)) (n1 : t ∉ l) (n2 : L ∉ l) : Dt (offs l H) (.ref t) (.tuple [.list ds, d]) := by
  obtain ⟨vs, h1, h2⟩ := sat.ow (t, .tup [.con (.ref L), .dat d]) (by rw [ho]; exact List.mem_cons_self ..)
  obtain ⟨ws, h3, h4⟩ := sat.ow (L, .lst (ds.map Sl.dat)) (by rw [ho]; exact List.mem_cons_of_mem _ (List.mem_cons_self ..))
  cases h2 with
  | cons a1 a2 =>
    cases a2 with
    | cons a2 a3 =>
      cases a3
      cases (show _ = V.ref L from a1)
      exact .tup (offs_of n1 h1) (.cons (.lst (offs_of n2 h3) (h4.dats.to sm)) (.cons (Dt.to a2 sm) .nil))
theorem EX.reprTL {rest : List (Addr × OD)} (h : EX te g (.con (.ref t))) (ho : g.ow = (t, .tup [.con (.ref L), .dat d]) :: (L, .lst (ds.map Sl.dat)) :: rest) (n : Shows (.tuple [.list ds, d])) : EX (tCB rReprT (tCons te tNil)) g (.dat (.str (PyData.tuple [.list ds, d]).shown)) :=
  EX.cb (EAX.cons h EAX.nil) fun H0 σ H ys Q sat a1 q => by
    cases a1 with
    | cons a1 a2 =>
      cases a2
      cases (show _ = V.ref t from a1)
      refine ⟨_, _, rfl, ?_, n, q _ H (Same.refl _) (.str _)⟩
      exact Dt.on' (l := []) (dt_TL sat ho (fun b o h => offs_of (by simp) (offs_at h).2) (by simp) (by simp))
/-- such a tuple that was just told is data from now on -/
theorem EM.thaw (h : EM te g fun s g1 => ∃ t L ds d rest, s = .con (.ref t) ∧ g1.ow = (t, .tup [.con (.ref L), .dat d]) :: (L, .lst (ds.map Sl.dat)) :: rest ∧ K (.dat (.tuple [.list ds, d])) { g1 with ow := rest }) : EM te g K := fun H0 σ H Q sat q => by
  refine h H0 σ H _ sat fun x H1 s g1 k1 e1 sat1 sm1 h1 => ?_
  obtain ⟨t, L, ds, d, rest, rfl, ho, k⟩ := k1
  cases (show x = V.ref t from h1)
  obtain ⟨sl1, ow1, gn1, hd1, pw1⟩ := g1
  cases ho
  have s1 : Sat H0 (GS.addO (GS.addO ⟨sl1, rest, gn1, hd1, pw1⟩ L (.lst (ds.map Sl.dat))) t (.tup [.con (.ref L), .dat d])) σ H1 := sat1
  obtain ⟨s2, m2, n2⟩ := s1.drop1
  obtain ⟨s3, m3, n3⟩ := s2.drop1
  have sm := m2.trans m3
  have n4 : t ∉ (⟨sl1, rest, gn1, hd1, pw1⟩ : GS).l := fun z => n2 (List.mem_cons_of_mem _ z)
  exact q _ H1 _ _ k e1 s3 (sm1.trans sm) (dt_TL sat1 rfl sm n4 n3)
/-! fewer draws are left than there are -/
theorem Sat.less {H0 : Hp} {σ : L2.St} {H : Hp} (sat : Sat H0 g σ H) (h : g.gn = [(a, N)]) (e : N' ≤ N) : Sat H0 { g with gn := [(a, N')] } σ H ∧ ({ g with gn := [(a, N')] } : GS).l = g.l := by
  have el : ({ g with gn := [(a, N')] } : GS).l = g.l := by unfold GS.l; rw [h]; rfl
  refine ⟨⟨sat.len, fun i s hs n => ?_, fun p hp => ?_, fun p hp => ?_, by rw [el]; exact sat.nd, fun b hb => sat.dom b (by rw [el] at hb; exact hb), sat.same, fun b hb => sat.fresh b (by rw [h]; exact hb)⟩, el⟩
  · rw [el]; exact sat.sl i s hs n
  · rw [el]; exact sat.ow p hp
  · rw [List.mem_singleton.mp hp]
    exact (sat.gn (a, N) (by rw [h]; exact List.mem_singleton.mpr rfl)).less e
theorem EM.less (N' : Nat) (h : g.gn = [(a, N)]) (e : N' ≤ N) (k : EM te { g with gn := [(a, N')] } K) : EM te g K := fun H0 σ H Q sat q => by
  obtain ⟨s1, el⟩ := sat.less h e
  refine k H0 σ H Q s1 fun x H' s g' kk e' sat' sm hx => q x H' s g' kk e' sat' ?_ hx
  rw [el] at sm
  exact sm
theorem SX.less (N' : Nat) (h : g.gn = [(a, N)]) (e : N' ≤ N) (k : SX ts { g with gn := [(a, N')] } O) : SX ts g O := fun H0 σ H D sat r => by
  obtain ⟨s1, el⟩ := sat.less h e
  exact k H0 σ H D s1 (r.to (by rw [el]; exact Same.refl _))
theorem EM.lessP (N' : Nat) (h : EM te g fun s g1 => ∃ a N, g1.gn = [(a, N)] ∧ N' ≤ N ∧ K s { g1 with gn := [(a, N')] }) : EM te g K := fun H0 σ H Q sat q => by
  refine h H0 σ H _ sat fun x H1 s g1 k1 e1 sat1 sm1 h1 => ?_
  obtain ⟨a, N, hg, hN, k⟩ := k1
  obtain ⟨s1, el⟩ := sat1.less hg hN
  exact q x H1 s _ k e1 s1 (by rw [el]; exact sm1) (by rw [el]; exact h1)
theorem c_ixL {KF : PySem.W.Frag} {i : Int} (e : atI ds i = some d) : RC2 (rIxL KF) g (.dat (.list ds)) (.dat (.int i)) (.dat d) := fun H0 σ H x y Q _ a b q => by
  cases a with
  | lst h1 h2 =>
    obtain ⟨v, e1, e2⟩ := atI_data h2 e
    exact ⟨_, _, i, v, rfl, hold_int b, .inl (.inl (offs_at h1).2), e1, q v H (Same.refl _) e2⟩
end
end Hw

set_option Elab.async false
set_option linter.all false
set_option maxRecDepth 100000
set_option maxHeartbeats 4000000
/-! small expressions: how large what is gathered gets; loops over what is drawn; calls by keyword -/
namespace Hw
open PySem PySem.Spec PyProof.Rows L2
namespace Et
/-- numbers of one figure, names of the list -/
def tk (ns : List Str) : Et → Prop
  | .int i => i.natAbs ≤ 9
  | .nm z => z ∈ ns
  | .turned a => a.tk ns
  | .times i a => i.natAbs ≤ 9 ∧ a.tk ns
  | .up n a => n ≤ 3 ∧ a.tk ns
  | .down n a => n ≤ 3 ∧ a.tk ns
  | .bin _ a b => a.tk ns ∧ b.tk ns
theorem tk.ok {ns : List Str} : ∀ e : Et, e.tk ns → e.ok ns
  | .int i, h => Nat.le_trans h (by decide)
  | .nm z, h => h
  | .turned a, h => tk.ok a h
  | .times i a, h => ⟨Nat.le_trans h.1 (by decide), tk.ok a h.2⟩
  | .up n a, h => ⟨Nat.le_trans h.1 (by decide), tk.ok a h.2⟩
  | .down n a, h => ⟨Nat.le_trans h.1 (by decide), tk.ok a h.2⟩
  | .bin _ a b, h => ⟨tk.ok a h.1, tk.ok b h.2⟩
theorem tk.more {ns ms : List Str} (s : ∀ z ∈ ns, z ∈ ms) : ∀ e : Et, e.tk ns → e.tk ms
  | .int i, h => h
  | .nm z, h => s z h
  | .turned a, h => tk.more s a h
  | .times i a, h => ⟨h.1, tk.more s a h.2⟩
  | .up n a, h => ⟨h.1, tk.more s a h.2⟩
  | .down n a, h => ⟨h.1, tk.more s a h.2⟩
  | .bin _ a b, h => ⟨tk.more s a h.1, tk.more s b h.2⟩
theorem bulk24 {ns : List Str} (hn : ∀ z ∈ ns, z.cps.size ≤ 10) : ∀ (e : Et) (n : Nat), e.depth ≤ n → e.ok ns → e.d.bulk + 14 ≤ 24 * 2 ^ n := by
  have p1 : ∀ n : Nat, 1 ≤ 2 ^ n := fun n => Nat.pow_pos (by decide)
  intro e
  induction e with
  | int i => intro n _ _; have := p1 n; simp only [d, PyData.bulk]; omega
  | nm z => intro n _ h; have := p1 n; have := hn z h; simp only [d, PyData.bulk]; omega
  | turned a ih => intro n hd h; cases n with
    | zero => exact absurd hd (Nat.not_succ_le_zero _)
    | succ n =>
      have := ih n (Nat.le_of_succ_le_succ hd) h
      have e1 : ("turned" : Str).cps.size ≤ 10 := by decide
      have := p1 n
      simp only [d, PyData.bulk, PyData.bulkAll]
      rw [Nat.pow_succ]; omega
  | times i a ih => intro n hd h; cases n with
    | zero => exact absurd hd (Nat.not_succ_le_zero _)
    | succ n =>
      have := ih n (Nat.le_of_succ_le_succ hd) h.2
      have e1 : ("times" : Str).cps.size ≤ 6 := by decide
      have := p1 n
      simp only [d, PyData.bulk, PyData.bulkAll]
      rw [Nat.pow_succ]; omega
  | up i a ih => intro n hd h; cases n with
    | zero => exact absurd hd (Nat.not_succ_le_zero _)
    | succ n =>
      have := ih n (Nat.le_of_succ_le_succ hd) h.2
      have e1 : ("up" : Str).cps.size ≤ 6 := by decide
      have := p1 n
      simp only [d, PyData.bulk, PyData.bulkAll]
      rw [Nat.pow_succ]; omega
  | down i a ih => intro n hd h; cases n with
    | zero => exact absurd hd (Nat.not_succ_le_zero _)
    | succ n =>
      have := ih n (Nat.le_of_succ_le_succ hd) h.2
      have e1 : ("down" : Str).cps.size ≤ 6 := by decide
      have := p1 n
      simp only [d, PyData.bulk, PyData.bulkAll]
      rw [Nat.pow_succ]; omega
  | bin o a b iha ihb => intro n hd h; cases n with
    | zero => exact absurd hd (Nat.not_succ_le_zero _)
    | succ n =>
      have hd : max a.depth b.depth ≤ n := Nat.le_of_succ_le_succ hd
      have h1 := iha n (by omega) h.1
      have h2 := ihb n (by omega) h.2
      have e1 : o.w.cps.size ≤ 6 := by cases o <;> decide
      have := p1 n
      simp only [d, PyData.bulk, PyData.bulkAll]
      rw [Nat.pow_succ]; omega
end Et
/-- all numbers of a sum together -/
def mass (acc : Acc) : Nat := (acc.map fun p => p.2.natAbs).sum
theorem mass_mem : ∀ (acc : Acc), ∀ p ∈ acc, p.2.natAbs ≤ mass acc
  | [], p, h => nomatch h
  | q :: r, p, h => by
    have e : mass (q :: r) = q.2.natAbs + mass r := by unfold mass; rw [List.map_cons, List.sum_cons]
    rcases List.mem_cons.mp h with z | z
    · rw [z, e]; omega
    · have := mass_mem r p z; omega
theorem mass_add : ∀ (acc : Acc) (e : Et) (k : Int), mass (addA acc e k) ≤ mass acc + k.natAbs
  | [], e, k => by simp [mass, addA]
  | q :: r, e, k => by
    have ih := mass_add r e k
    have e0 : ∀ (q : Et × Int) (r : Acc), mass (q :: r) = q.2.natAbs + mass r := fun q r => by unfold mass; rw [List.map_cons, List.sum_cons]
    rw [addA]
    by_cases h : q.1 = e
    · rw [if_pos h, e0, e0]
      show (q.2 + k).natAbs + mass r ≤ _
      omega
    · rw [if_neg h, e0, e0]; omega
theorem gat_mass {ns : List Str} : ∀ (e : Et) (n : Nat) (k : Int) (acc : Acc), e.depth ≤ n → e.tk ns → mass (gat e k acc).2 ≤ mass acc + k.natAbs * 9 ^ n := by
  have p1 : ∀ n : Nat, 1 ≤ 9 ^ n := fun n => Nat.pow_pos (by decide)
  have ad : ∀ (acc : Acc) (e : Et) (k : Int) (n : Nat), mass (addA acc e k) ≤ mass acc + k.natAbs * 9 ^ n := fun acc e k n => by
    have := mass_add acc e k
    have := Nat.mul_le_mul_left k.natAbs (p1 n)
    omega
  have st : ∀ (k i : Int) (n : Nat), i.natAbs ≤ 9 → (k * i).natAbs * 9 ^ n ≤ k.natAbs * 9 ^ (n + 1) := fun k i n h => by
    rw [Int.natAbs_mul, Nat.pow_succ, Nat.mul_comm (9 ^ n) 9, ← Nat.mul_assoc]
    exact Nat.mul_le_mul_right _ (Nat.mul_le_mul_left _ h)
  have s2 : ∀ (k : Int) (n : Nat), k.natAbs * 9 ^ n + k.natAbs * 9 ^ n ≤ k.natAbs * 9 ^ (n + 1) := fun k n => by
    rw [Nat.pow_succ, Nat.mul_comm (9 ^ n) 9, Nat.mul_left_comm]
    omega
  intro e
  induction e with
  | int i => intro n k acc _ _; exact Nat.le_add_right _ _
  | nm z => intro n k acc _ _; exact ad ..
  | turned a ih => intro n k acc hd h; cases n with
    | zero => exact absurd hd (Nat.not_succ_le_zero _)
    | succ n =>
      have h1 := ih n (-k) acc (Nat.le_of_succ_le_succ hd) h
      have := s2 k n
      rw [Int.natAbs_neg] at h1
      show mass (gat a (-k) acc).2 ≤ _
      omega
  | times i a ih => intro n k acc hd h; cases n with
    | zero => exact absurd hd (Nat.not_succ_le_zero _)
    | succ n =>
      have h1 := ih n (k * i) acc (Nat.le_of_succ_le_succ hd) h.2
      have := st k i n h.1
      show mass (gat a (k * i) acc).2 ≤ _
      omega
  | up i a ih => intro n k acc hd h; cases n with
    | zero => exact absurd hd (Nat.not_succ_le_zero _)
    | succ n =>
      have h1 := ih n (k * 2 ^ i) acc (Nat.le_of_succ_le_succ hd) h.2
      have hi : ((2 : Int) ^ i).natAbs ≤ 9 := by
        rw [Int.natAbs_pow]
        have := Nat.pow_le_pow_right (n := 2) (by decide) h.1
        exact Nat.le_trans this (by decide)
      have := st k (2 ^ i) n hi
      show mass (gat a (k * 2 ^ i) acc).2 ≤ _
      omega
  | down i a ih => intro n k acc _ _; exact ad ..
  | bin o a b iha ihb => intro n k acc hd h; cases n with
    | zero => exact absurd hd (Nat.not_succ_le_zero _)
    | succ n =>
      have hd : max a.depth b.depth ≤ n := Nat.le_of_succ_le_succ hd
      have h1 := iha n k acc (by omega) h.1
      have := s2 k n
      cases o with
      | plus =>
        have h2 := ihb n k (gat a k acc).2 (by omega) h.2
        show mass (gat b k (gat a k acc).2).2 ≤ _
        omega
      | minus =>
        have h2 := ihb n (-k) (gat a k acc).2 (by omega) h.2
        rw [Int.natAbs_neg] at h2
        show mass (gat b (-k) (gat a k acc).2).2 ≤ _
        omega
      | _ => exact ad ..
theorem gat_c {ns : List Str} : ∀ (e : Et) (n : Nat) (k : Int) (acc : Acc), e.depth ≤ n → e.tk ns → (gat e k acc).1.natAbs ≤ k.natAbs * (10 * 10 ^ n) := by
  have p1 : ∀ n : Nat, 1 ≤ 10 ^ n := fun n => Nat.pow_pos (by decide)
  have st : ∀ (k i : Int) (n : Nat), i.natAbs ≤ 9 → (k * i).natAbs * (10 * 10 ^ n) ≤ k.natAbs * (10 * 10 ^ (n + 1)) := fun k i n h => by
    rw [Int.natAbs_mul, Nat.mul_assoc]
    refine Nat.mul_le_mul_left _ ?_
    rw [Nat.pow_succ]
    have := Nat.mul_le_mul_right (10 * 10 ^ n) h
    omega
  have s2 : ∀ (k : Int) (n : Nat), k.natAbs * (10 * 10 ^ n) + k.natAbs * (10 * 10 ^ n) ≤ k.natAbs * (10 * 10 ^ (n + 1)) := fun k n => by
    rw [← Nat.mul_add, Nat.pow_succ]
    exact Nat.mul_le_mul_left _ (by omega)
  have kk : ∀ (k : Int) (n : Nat), k.natAbs ≤ k.natAbs * (10 * 10 ^ n) := fun k n => by
    have := Nat.mul_le_mul_left k.natAbs (show 1 ≤ 10 * 10 ^ n by have := p1 n; omega)
    omega
  intro e
  induction e with
  | int i => intro n k acc _ h; show (k * i).natAbs ≤ _; rw [Int.natAbs_mul]; exact Nat.mul_le_mul_left _ (Nat.le_trans h (by have := p1 n; omega))
  | nm z => intro n k acc _ _; exact Nat.zero_le _
  | turned a ih => intro n k acc hd h; cases n with
    | zero => exact absurd hd (Nat.not_succ_le_zero _)
    | succ n =>
      have h1 := ih n (-k) acc (Nat.le_of_succ_le_succ hd) h
      have := s2 k n
      have := kk k n
      rw [Int.natAbs_neg] at h1
      show ((gat a (-k) acc).1 - k).natAbs ≤ _
      omega
  | times i a ih => intro n k acc hd h; cases n with
    | zero => exact absurd hd (Nat.not_succ_le_zero _)
    | succ n =>
      have h1 := ih n (k * i) acc (Nat.le_of_succ_le_succ hd) h.2
      have := st k i n h.1
      show (gat a (k * i) acc).1.natAbs ≤ _
      omega
  | up i a ih => intro n k acc hd h; cases n with
    | zero => exact absurd hd (Nat.not_succ_le_zero _)
    | succ n =>
      have h1 := ih n (k * 2 ^ i) acc (Nat.le_of_succ_le_succ hd) h.2
      have hi : ((2 : Int) ^ i).natAbs ≤ 9 := by
        rw [Int.natAbs_pow]
        have := Nat.pow_le_pow_right (n := 2) (by decide) h.1
        exact Nat.le_trans this (by decide)
      have := st k (2 ^ i) n hi
      show (gat a (k * 2 ^ i) acc).1.natAbs ≤ _
      omega
  | down i a ih => intro n k acc _ _; exact Nat.zero_le _
  | bin o a b iha ihb => intro n k acc hd h; cases n with
    | zero => exact absurd hd (Nat.not_succ_le_zero _)
    | succ n =>
      have hd : max a.depth b.depth ≤ n := Nat.le_of_succ_le_succ hd
      have h1 := iha n k acc (by omega) h.1
      have := s2 k n
      cases o with
      | plus =>
        have h2 := ihb n k (gat a k acc).2 (by omega) h.2
        show ((gat a k acc).1 + (gat b k (gat a k acc).2).1).natAbs ≤ _
        omega
      | minus =>
        have h2 := ihb n (-k) (gat a k acc).2 (by omega) h.2
        rw [Int.natAbs_neg] at h2
        show ((gat a k acc).1 + (gat b (-k) (gat a k acc).2).1).natAbs ≤ _
        omega
      | _ => exact Nat.zero_le _
/-- what is gathered, as a sum -/
def gathE (e : Et) : Acc := ((srt ltTI (nmP (gat e 1 []).2)).map fun x => (Et.nm x.1, x.2)) ++ (nz (gat e 1 []).2).filter fun p => !isNm p.1
theorem nmP_mem {acc : Acc} {x : Str × Int} (h : x ∈ nmP acc) : (Et.nm x.1, x.2) ∈ nz acc := by
  obtain ⟨⟨e, k⟩, h1, h2⟩ := List.mem_filterMap.mp h
  cases e with
  | nm z => cases h2; exact h1
  | _ => cases h2
theorem gathE_mem {e : Et} {p : Et × Int} (h : p ∈ gathE e) : p ∈ (gat e 1 []).2 := by
  rcases List.mem_append.mp h with z | z
  · obtain ⟨x, hx, rfl⟩ := List.mem_map.mp z
    exact (List.mem_filter.mp (nmP_mem ((srt_perm ltTI _).mem_iff.mp hx))).1
  · exact (List.mem_filter.mp (List.mem_filter.mp z).1).1
theorem gathE_len {e : Et} {n : Nat} (h : e.depth ≤ n) : (gathE e).length ≤ 2 * 2 ^ n := by
  have h1 := gat_len e 1 []
  have h2 := Nat.pow_le_pow_right (n := 2) (by decide) h
  have h3 : (gat e 1 []).2.length ≤ 0 + 2 ^ e.depth := h1
  have h4 : (nz (gat e 1 []).2).length ≤ (gat e 1 []).2.length := List.length_filter_le _ _
  have h5 : (nmP (gat e 1 []).2).length ≤ (nz (gat e 1 []).2).length := List.length_filterMap_le _ _
  have h6 := List.length_filter_le (fun p : Et × Int => !isNm p.1) (nz (gat e 1 []).2)
  unfold gathE
  rw [List.length_append, List.length_map, (srt_perm ltTI _).length_eq]
  omega
theorem gathD_E (e : Et) : gathD e = .tuple [.list ((gathE e).map termD), .int (gat e 1 []).1] := by
  unfold gathE
  rw [List.map_append, List.map_map]
  rfl
theorem tot_cons (f : Et → Int) (p : Et × Int) (r : Acc) : tot f (p :: r) = p.2 * f p.1 + tot f r := by unfold tot; rw [List.map_cons, List.sum_cons]
theorem tot_app (f : Et → Int) (a b : Acc) : tot f (a ++ b) = tot f a + tot f b := by unfold tot; rw [List.map_append, List.sum_append]
theorem tot_perm (f : Et → Int) {a b : Acc} (h : a.Perm b) : tot f a = tot f b := by
  induction h with
  | nil => rfl
  | cons x _ ih => rw [tot_cons, tot_cons, ih]
  | swap x y l => rw [tot_cons, tot_cons, tot_cons, tot_cons]; omega
  | trans _ _ h1 h2 => exact h1.trans h2
theorem tot_nz (f : Et → Int) : ∀ acc : Acc, tot f (nz acc) = tot f acc
  | [] => rfl
  | p :: r => by
    have ih := tot_nz f r
    unfold nz at ih ⊢
    by_cases h : p.2 = 0
    · rw [List.filter_cons_of_neg (by simp [h]), ih, tot_cons, h, Int.zero_mul, Int.zero_add]
    · rw [List.filter_cons_of_pos (by simp [h]), tot_cons, tot_cons, ih]
theorem tot_parts (f : Et → Int) : ∀ l : Acc, tot f ((l.filterMap fun p => match p.1 with | .nm z => some (z, p.2) | _ => none).map fun x => (Et.nm x.1, x.2)) + tot f (l.filter fun p => !isNm p.1) = tot f l
  | [] => rfl
  | (e, k) :: r => by
    have ih := tot_parts f r
    cases e with
    | nm z =>
      rw [List.filter_cons_of_neg (by simp [isNm])]
      show tot f ((Et.nm z, k) :: _) + _ = tot f ((Et.nm z, k) :: r)
      rw [tot_cons, tot_cons]; omega
    | _ =>
      rw [List.filter_cons_of_pos (by simp [isNm]), tot_cons, tot_cons]
      show tot f ((r.filterMap fun p => match p.1 with | .nm z => some (z, p.2) | _ => none).map fun x => (Et.nm x.1, x.2)) + _ = _
      omega
theorem gathE_tot (f : Et → Int) (e : Et) : tot f (gathE e) = tot f (gat e 1 []).2 := by
  unfold gathE
  rw [tot_app, tot_perm f ((srt_perm ltTI (nmP (gat e 1 []).2)).map fun x => (Et.nm x.1, x.2))]
  exact (tot_parts f _).trans (tot_nz f _)
/-- names once each -/
theorem filt_one {l : Acc} (hd : (l.map (·.1)).Nodup) {e : Et} {k : Int} (h : (e, k) ∈ l) : (l.filter fun p => decide (p.1 = e)) = [(e, k)] := by
  induction l with
  | nil => exact nomatch h
  | cons q r ih =>
    rw [List.map_cons, List.nodup_cons] at hd
    have out : ∀ r : Acc, e ∉ r.map (·.1) → (r.filter fun p => decide (p.1 = e)) = [] := fun r hr => List.filter_eq_nil_iff.mpr fun x hx z => hr (List.mem_map.mpr ⟨x, hx, of_decide_eq_true z⟩)
    rcases List.mem_cons.mp h with z | z
    · subst z
      rw [List.filter_cons_of_pos (by simp), out r hd.1]
    · have ne : q.1 ≠ e := fun w => hd.1 (w ▸ List.mem_map.mpr ⟨_, z, rfl⟩)
      rw [List.filter_cons_of_neg (by simp [ne]), ih hd.2 z]
theorem nmP_nodup {acc : Acc} (h : (acc.map (·.1)).Nodup) : ((nmP acc).map (·.1)).Nodup := by
  have h1 : ((nz acc).map (·.1)).Nodup := h.sublist (List.filter_sublist.map _)
  unfold nmP
  revert h1
  generalize nz acc = l
  induction l with
  | nil => intro _; exact List.nodup_nil
  | cons q r ih =>
    intro h1
    rw [List.map_cons, List.nodup_cons] at h1
    obtain ⟨e, k⟩ := q
    cases e with
    | nm z =>
      show (z :: ((r.filterMap fun p => match p.1 with | .nm z => some (z, p.2) | _ => none).map (·.1))).Nodup
      refine List.nodup_cons.mpr ⟨fun hz => ?_, ih h1.2⟩
      obtain ⟨x, hx, hxe⟩ := List.mem_map.mp hz
      obtain ⟨⟨e2, k2⟩, h2, h3⟩ := List.mem_filterMap.mp hx
      cases e2 with
      | nm y =>
        cases h3
        cases hxe
        exact h1.1 (List.mem_map.mpr ⟨_, h2, rfl⟩)
      | _ => cases h3
    | _ => exact ih h1.2
def valAt (acc : Acc) (z : Str) : Int := ((nmP acc).lookup z).getD 0
theorem lookup_mem {l : List (Str × Int)} (hd : (l.map (·.1)).Nodup) {x : Str × Int} (h : x ∈ l) : l.lookup x.1 = some x.2 := by
  induction l with
  | nil => exact nomatch h
  | cons q r ih =>
    rw [List.map_cons, List.nodup_cons] at hd
    rcases List.mem_cons.mp h with z | z
    · subst z; simp [List.lookup]
    · have ne : (x.1 == q.1) = false := beq_eq_false_iff_ne.mpr fun w => hd.1 (w ▸ List.mem_map.mpr ⟨_, z, rfl⟩)
      obtain ⟨a, b⟩ := q
      simp only [List.lookup]
      rw [ne]
      exact ih hd.2 z
theorem valAt_mem {acc : Acc} (h : (acc.map (·.1)).Nodup) {x : Str × Int} (hx : x ∈ nmP acc) : valAt acc x.1 = x.2 := by
  unfold valAt
  rw [lookup_mem (nmP_nodup h) hx]; rfl
theorem rising_lt : ∀ (p : Str) (l : List Str), risingS p l = true → (p :: l).Pairwise (fun a b => ltCps b.cps.toList a.cps.toList = false)
  | p, [], _ => List.pairwise_singleton _ _
  | p, x :: r, h => by
    have h' : (!ltCps x.cps.toList p.cps.toList && risingS x r) = true := h
    rw [Bool.and_eq_true] at h'
    have h1 : ltCps x.cps.toList p.cps.toList = false := by simpa using h'.1
    have ih := rising_lt x r h'.2
    refine List.pairwise_cons.mpr ⟨fun y hy => ?_, ih⟩
    rcases List.mem_cons.mp hy with z | z
    · rw [z]; exact h1
    · have h2 := (List.pairwise_cons.mp ih).1 y z
      rw [ltCps_eq] at h1 h2 ⊢
      have h1 := of_decide_eq_false h1
      have h2 := of_decide_eq_false h2
      refine decide_eq_false fun h3 => ?_
      exact (List.not_lt.mpr (List.le_trans (List.not_lt.mp h1) (List.not_lt.mp h2))) h3
theorem sorted_lt {l : List Str} (h : sortedS l = true) : l.Pairwise (fun a b => ltCps b.cps.toList a.cps.toList = false) := by
  cases l with
  | nil => exact List.Pairwise.nil
  | cons x r => exact rising_lt x r h
theorem ti_of_text {a b : Str} {k j : Int} (h : ltCps b.cps.toList a.cps.toList = false) (ne : a ≠ b) : ltTI (b, k) (a, j) = false := by
  unfold ltTI tokTI
  have e : (Sum.inr b.cps.toList : Int ⊕ List Nat) ≠ Sum.inr a.cps.toList := fun z => ne (by
    have := Sum.inr.inj z
    obtain ⟨⟨l⟩⟩ := b
    obtain ⟨⟨m⟩⟩ := a
    cases (show l = m from this)
    rfl)
  rw [lex_diff (O := itemOrd) e]
  rw [ltCps_eq] at h
  exact h
/-- the names in order, each with its number -/
theorem names_srt {acc : Acc} (hd : (acc.map (·.1)).Nodup) {zs : List Str} (hp : zs.Perm ((nmP acc).map (·.1))) (hs : sortedS zs = true) : (zs.map fun z => (z, valAt acc z)) = srt ltTI (nmP acc) := by
  have nd := nmP_nodup hd
  have ndz : zs.Nodup := hp.nodup_iff.mpr nd
  refine srt_uniq ltTI_asym _ _ (((hp.map fun z => (z, valAt acc z)).trans ?_).trans (srt_perm ltTI _).symm) ?_ (srt_sorted ltTI_irr ltTI_tr _)
  · rw [List.map_map]
    have : ((nmP acc).map ((fun z => (z, valAt acc z)) ∘ fun x => x.1)) = nmP acc := by
      have : ∀ x ∈ nmP acc, ((fun z => (z, valAt acc z)) ∘ fun x : Str × Int => x.1) x = x := fun x hx => by
        show (x.1, valAt acc x.1) = x
        rw [valAt_mem hd hx]
      exact (List.map_congr_left this).trans (List.map_id' _)
    rw [this]
  · rw [List.pairwise_map]
    have := (sorted_lt hs).and ndz
    exact this.imp fun {a b} h => ti_of_text h.1 h.2
theorem pick_one {acc : Acc} (hd : (acc.map (·.1)).Nodup) {z : Str} (hz : z ∈ (nmP acc).map (·.1)) : ((nz acc).filter fun p => decide (p.1 = .nm z)) = [(.nm z, valAt acc z)] := by
  obtain ⟨x, hx, rfl⟩ := List.mem_map.mp hz
  rw [valAt_mem hd hx]
  exact filt_one (hd.sublist (List.filter_sublist.map _)) (nmP_mem hx)
/-! a loop over what is drawn -/
section
variable {g : GS} {te : TE} {KF : PySem.W.Frag} {O : Out} {tg : TG} {tb : TS}
def ITM (wi : TI) (g : GS) (K : List Sl → GS → Prop) : Prop := ∀ H0 σ H R, Sat H0 g σ H → (∀ its g' J H', K its g' → g'.sl = g.sl → Sat H0 g' σ H' → Same (offs g.l H) (offs g'.l H') → WalksJ J its g'.l H' → R J H') → wi σ H R
theorem ITM.list {K : List Sl → GS → Prop} (h : EM te g fun s g1 => ∃ ds, s = .dat (.list ds) ∧ K (ds.map Sl.dat) g1) : ITM (iList KF te) g K := fun H0 σ H R sat q => by
  refine h H0 σ H _ sat fun x H1 s g1 k1 e1 sat1 sm1 hx => ?_
  obtain ⟨ds, rfl, k⟩ := k1
  cases hx with
  | @lst a vs _ h1 h2 =>
    refine ⟨a, rfl, ⟨vs, .inl (.inl (offs_at h1).2)⟩, q _ g1 _ H1 k e1 sat1 sm1 ?_⟩
    intro l2 H2 sm _
    have h3 := sm _ _ h1
    have h4 := HoldA.of (h2.to sm)
    have sq : SqL KF H2 a vs := .inl (.inl (offs_at h3).2)
    refine ⟨fun i s hs => ?_, vs, sq, by rw [List.length_map, h2.len]; exact Nat.le_refl _⟩
    obtain ⟨y, hy, hh⟩ := h4.get hs
    exact ⟨⟨vs, y, sq, hy⟩, fun x H3 ⟨e, hl⟩ => by
      subst e
      have := hl vs sq
      rw [hy] at this
      cases this
      exact ⟨Same.refl _, hh⟩⟩
theorem SX.forM {wi : TI} (hw : ITM wi g fun its g1 => ∃ inv : Nat → GS → Prop, inv 0 g1 ∧ (∀ i s g', its[i]? = some s → inv i g' → GX tg s g' fun g2 => SX tb g2 { O with nx := inv (i + 1), ct := inv (i + 1), bk := O.nx }) ∧ ∀ g', inv its.length g' → O.nx g') : SX (tFor wi tg tb) g O := fun H0 σ H D sat r => by
  refine hw H0 σ H _ sat fun its g1 J H1 k1 e1 sat1 sm1 wj => ?_
  obtain ⟨inv, h0, turn, hd⟩ := k1
  have hw1 : IT (fun σ' H' R' => R' J H1) g1 its → True := fun _ => trivial
  refine ⟨fun i m σ' H' => m = its.length - i ∧ i ≤ its.length ∧ ∃ g', inv i g' ∧ Sat H0 g' σ' H' ∧ Same (offs g1.l H1) (offs g'.l H'), ⟨_, rfl, Nat.zero_le _, g1, h0, sat1, Same.refl _⟩, ?_⟩
  rintro i m σ' H' ⟨rfl, hi, g', hv, sat', sm'⟩
  obtain ⟨w1, w2⟩ := wj g'.l H' sm' sat'.dom
  by_cases hlt : i < its.length
  · obtain ⟨s, hs⟩ : ∃ s, its[i]? = some s := ⟨_, List.getElem?_eq_getElem hlt⟩
    obtain ⟨go, yl⟩ := w1 i s hs
    refine .inr ⟨go, fun σ2 H2 => ∃ g2, inv (i + 1) g2 ∧ Sat H0 g2 σ2 H2 ∧ Same (offs g1.l H1) (offs g2.l H2), fun σ2 H2 h2 => ⟨its.length - (i + 1), by omega, rfl, hlt, h2⟩, fun x H3 hy => ?_⟩
    obtain ⟨e3, hx⟩ := yl x H3 hy
    have sm3 := sm'.trans (offs_mono (l := g'.l) e3)
    refine turn i s g' hs hv H0 σ' H3 x _ (sat'.mono e3) hx fun g4 σ4 H4 k4 sat4 sm4 => ?_
    have sm14 := sm3.trans sm4
    exact k4 H0 σ4 H4 _ sat4 ⟨fun g5 σ5 H5 h5 sat5 sm5 => ⟨g5, h5, sat5, sm14.trans sm5⟩, fun s g5 σ5 x H5 h5 sat5 sm5 => r.rt s g5 σ5 x H5 h5 sat5 (sm1.trans (sm14.trans sm5)),
      fun g5 σ5 H5 h5 sat5 sm5 => r.nx g5 σ5 H5 h5 sat5 (sm1.trans (sm14.trans sm5)), fun g5 σ5 H5 h5 sat5 sm5 => ⟨g5, h5, sat5, sm14.trans sm5⟩⟩
  · have e : i = its.length := by omega
    subst e
    exact .inl ⟨w2, r.nx g' σ' H' (hd g' hv) sat' (sm1.trans sm')⟩
theorem EM.callMW {K : Sl → GS → Prop} {m : Nat} {gV : List V → List V} {φ : List Sl → List (Addr × OD) → List (Addr × Nat) → (Sl → List (Addr × OD) → List (Addr × Nat) → Prop) → Prop} {E : XK} {ta : TA} (h : EA ta g fun ss g1 => ∃ ss', (∀ l H zs, HoldA l H zs ss → zs.length = m ∧ HoldA l H (gV zs) ss') ∧ φ ss' g1.ow g1.gn fun s ow gn => K s ⟨g1.sl, ow, gn, g1.hd, g1.pw⟩) : EM (tCallW (spM φ) m gV E ta) g K := fun H0 σ H Q sat q => by
  refine h H0 σ H _ sat fun xs H1 ss g1 k1 e1 sat1 sm1 h1 => ?_
  obtain ⟨ss', hg, k1⟩ := k1
  obtain ⟨hm, h1⟩ := hg _ _ _ h1
  refine ⟨hm, ss', ⟨[], g1.ow, g1.gn, g1.hd, g1.ow.map (·.1) ++ g1.gn.map (·.1)⟩, _, rfl, rfl, ⟨rfl, fun i s hs => by simp at hs, sat1.ow, sat1.gn, sat1.nd, sat1.dom, fun b o _ h => h, fun a ha => .inl ha⟩, h1, k1, ?_⟩
  rintro s ⟨sl2, ow2, gn2, hd2, pw2⟩ x H2 k2 rfl rfl rfl sat2 sm2 h2
  have sm2 : Same (offs g1.l H1) (offs (⟨g1.sl, ow2, gn2, g1.hd, g1.pw⟩ : GS).l H2) := sm2
  refine q x H2 s _ k2 e1 ⟨sat1.len, fun i t ht n => ?_, sat2.ow, sat2.gn, sat2.nd, sat2.dom, fun b o hb h0 => ?_, fun c hc => ?_⟩ (sm1.trans sm2) h2
  · obtain ⟨v, h3, h4⟩ := sat1.sl i t ht n
    exact ⟨v, h3, h4.to sm2⟩
  · refine sat2.same b o (fun z => ?_) (sat1.same b o hb h0)
    rcases sat1.fresh b z with w | w
    · exact hb w
    · rw [w] at h0; cases h0
  · rcases sat2.fresh c hc with w | w
    · exact sat1.fresh c w
    · by_cases hpw : c ∈ g1.pw
      · exact .inl hpw
      · refine .inr ?_
        cases z : H0 c with
        | none => rfl
        | some u => rw [sat1.same c u hpw z] at w; cases w
end
end Hw

set_option Elab.async false
set_option linter.all false
set_option maxRecDepth 100000
set_option maxHeartbeats 4000000
/-! the law's script, its generator; all of one's own let go; the law's body -/
namespace Hw
open PySem PySem.Spec PyProof.Rows L2
section
variable {g : GS} {te : TE} {KF : PySem.W.Frag} {O : Out} {t : TS}
theorem Sat.addG {H0 H H' : Hp} {σ : L2.St} {p : Addr} {n : Nat} (sat : Sat H0 g σ H) (eg : g.gn = []) (hp : H p = none) (e : Same H H') (hb : Gb p n H') : Sat H0 { g with gn := [(p, n)] } σ H' ∧ Same (offs g.l H) (offs ({ g with gn := [(p, n)] } : GS).l H') := by
  have el : ({ g with gn := [(p, n)] } : GS).l = g.ow.map (·.1) ++ p :: g.hd := rfl
  have gl : g.l = g.ow.map (·.1) ++ g.hd := by unfold GS.l; rw [eg]; rfl
  have np := sat.newNot hp
  have mem : ∀ b, b ∈ ({ g with gn := [(p, n)] } : GS).l → b = p ∨ b ∈ g.l := fun b h => by
    rw [el] at h
    rw [gl]
    rcases List.mem_append.mp h with z | z
    · exact .inr (List.mem_append_left _ z)
    · rcases List.mem_cons.mp z with z | z
      · exact .inl z
      · exact .inr (List.mem_append_right _ z)
  have sm : Same (offs g.l H) (offs ({ g with gn := [(p, n)] } : GS).l H') := fun b o h => by
    obtain ⟨nb, h⟩ := offs_at h
    refine offs_of (fun z => ?_) (e b o h)
    rcases mem b z with z | z
    · rw [z, hp] at h; cases h
    · exact nb z
  refine ⟨⟨sat.len, fun i s hs n => ?_, fun q hq => (sat.ow q hq).to sm (e _), fun q hq => ?_, ?_, fun a ha => ?_, fun b u n hb => e _ _ (sat.same b u n hb), fun a ha => ?_⟩, sm⟩
  · obtain ⟨v, h1, h2⟩ := sat.sl i s hs n
    exact ⟨v, h1, h2.to sm⟩
  · rw [List.mem_singleton.mp hq]; exact hb
  · rw [el]
    have nd := sat.nd
    rw [gl] at nd np
    exact List.perm_middle.nodup_iff.mpr (List.nodup_cons.mpr ⟨np, nd⟩)
  · rcases mem a ha with z | z
    · obtain ⟨s, t, c, h, _⟩ := hb
      exact ⟨_, by rw [z]; exact h⟩
    · obtain ⟨u, h⟩ := sat.dom a z
      exact ⟨u, e _ _ h⟩
  · have ha : a ∈ g.ow.map (·.1) ++ [p] := ha
    rcases List.mem_append.mp ha with z | z
    · exact sat.fresh a (List.mem_append_left _ z)
    · rw [List.mem_singleton.mp z]
      by_cases hpw : p ∈ g.pw
      · exact .inl hpw
      · refine .inr ?_
        cases w : H0 p with
        | none => rfl
        | some u => rw [sat.same p u hpw w] at hp; cases hp
/-- the law's generator is made -/
def spGen (K : PySem.W.Frag) : Sp := fun vs H Q _ => ∃ (a : Addr) (ns : List Int) (j : Nat), vs = [.ref a, .int j] ∧ j ≤ 1000 ∧ SqL K H a (ns.map V.int) ∧ ∀ (p : Addr) (H' : Hp), Same H H' → H p = none → Gb p 1000 H' → Q (.ref p) H'
theorem EM.gen {K : Sl → GS → Prop} {E : XK} {ta : TA} (h : EA ta g fun ss g1 => ∃ (ns : List Int) (j : Nat), ss = [.scr KF ns, .dat (.int (j : Int))] ∧ j ≤ 1000 ∧ g1.gn = [] ∧ ∀ a, K (.con (.ref a)) { g1 with gn := [(a, 1000)] }) : EM (tCall (spGen KF) [] E ta) g K := fun H0 σ H Q sat q => by
  refine h H0 σ H _ sat fun xs H1 ss g1 k1 e1 sat1 sm1 h1 => ?_
  rw [List.append_nil]
  obtain ⟨ns, j, rfl, hj, eg, k⟩ := k1
  cases h1 with
  | cons a1 a2 =>
    cases a2 with
    | cons a2 a3 =>
      cases a3
      obtain ⟨a, rfl, hS⟩ := a1
      rw [hold_int a2]
      refine ⟨a, ns, j, rfl, hj, offs_same.seq hS, fun p H2 sm2 hp hb => ?_⟩
      obtain ⟨s2, m2⟩ := sat1.addG eg hp sm2 hb
      exact q _ H2 _ _ (k p) e1 s2 (sm1.trans m2) rfl
theorem SX.dropAll (k : SX t { g with ow := [], gn := [] } O) : SX t g O := fun H0 σ H D sat r => by
  have sub : ∀ b, b ∈ ({ g with ow := [], gn := [] } : GS).l → b ∈ g.l := fun b hb => List.mem_append_right _ (List.mem_append_right _ hb)
  have sm : Same (offs g.l H) (offs ({ g with ow := [], gn := [] } : GS).l H) := fun b o h => by
    obtain ⟨nb, h⟩ := offs_at h
    exact offs_of (fun z => nb (sub b z)) h
  refine k H0 σ H D ⟨sat.len, fun i s hs n => ?_, fun q hq => (nomatch hq), fun q hq => (nomatch hq), ?_, fun a ha => sat.dom a (sub a ha), sat.same, fun a ha => (nomatch ha)⟩ (r.to sm)
  · obtain ⟨v, h1, h2⟩ := sat.sl i s hs n
    exact ⟨v, h1, h2.to sm⟩
  · exact (List.nodup_append.mp (List.nodup_append.mp sat.nd).2.1).2.1
end
def spLaw (K : PySem.W.Frag) : Sp := fun vs H Q _ => ∃ (a : Addr) (ns : List Int), vs = [.ref a] ∧ ns.length ≤ 63 ∧ SqL K H a (ns.map V.int) ∧ ∀ H' : Hp, Q (.bl true) H'
section
variable {P : Program} {w : World} {K : PySem.W.Frag} {mg : Str → Option Value} {base : Heap}
theorem bodyL {x : Str} {st : Stmt} {f : Addr} {fd : FuncData} {N : List Str} {p : Str} {k : Nat} (F : DefAt K x st f fd) (S : FnScope N [p] (defScope st))
    (hb : ∀ (cdv : Value) (A : Around) (outer : List Env) (s : Shared) (H : Hp) (E : XK), Gd (A.deeper (envOfC x (defScope st) s.heap.objs.size f cdv)) → Room k (A.deeper (envOfC x (defScope st) s.heap.objs.size f cdv)) →
      ∃ t, PSs (cxOf CX0 P w K mg base N x (defScope st) f cdv A outer s H E).nox (defBody st) t ∧ ∀ ns : List Int, ns.length ≤ 63 → SX t ⟨slots N.length [.scr K ns], [], [], [], []⟩ (outF [] (.bool true))) : FnG P w K mg base CX0 (k + 1) f fd [p] (spLaw K) := by
  refine bodyG0 F S (fun vs H Q E h => ?_) fun cdv A outer s H vs Q E gd hr h => ?_
  · obtain ⟨a, ns, rfl, _⟩ := h; rfl
  · obtain ⟨a, ns, rfl, hN, hS, q⟩ := h
    obtain ⟨t, p1, p2⟩ := hb cdv A outer s H E gd hr
    refine ⟨t, p1, p2 ns hN H _ H _ ?_ ⟨fun g' σ' H' e sat' sm => ?_, fun s g' σ' v H' e sat' sm hv => ?_, fun _ _ _ z => z.elim, fun _ _ _ z => z.elim⟩⟩
    · have ho : HoldA [] H [V.ref a] [.scr K ns] := .cons ⟨a, rfl, Same.seq (fun b o h => offs_of (by simp) h) hS⟩ .nil
      obtain ⟨a1, a2⟩ := start_sat (N := N) ho
      exact ⟨a1, a2, fun p hp => (nomatch hp), fun p hp => (nomatch hp), List.nodup_nil, fun a ha => (nomatch ha), fun b o _ h => h, fun a ha => (nomatch ha)⟩
    · exact nomatch e.1
    · obtain ⟨rfl, _, _⟩ := e
      cases hold_bool hv
      exact q H'
end
end Hw

set_option Elab.async false
set_option linter.all false
set_option maxRecDepth 100000
set_option maxHeartbeats 4000000
/-! set(list): of ints, of texts each once -/
namespace Hw
open PySem PySem.Spec PyProof.Rows L2
abbrev bareSet (w : World) : Obj := { cls := .type "set", dict := none, data := .set #[] 0 (.fresh 0 0 (!w.params.followText "set-order")) }
/-- items come one by one, Kt tells what stands in the set at S behind so many -/
structure Fills (P : Program) (w : World) (S : Addr) (n : Nat) (It : Nat → Value → Prop) (Kt : Nat → Heap → Prop) : Prop where
  keep : ∀ i h h', Kt i h → (∀ o, h.get? S = some o → h'.get? S = some o) → Kt i h'
  add : ∀ (A : Around) (i : Nat) (v : Value) (s : Shared) (Q : Bool → Shared → Prop) (E : Value → Shared → Prop), i < n → It i v → Kt i s.heap →
    (∀ (b : Bool) (h' : Heap) (k : Tok), Heap.SameBut S s.heap h' → s.toks ≤ k → Kt (i + 1) h' → Q b { s with heap := h', toks := k }) → wpAny (model P w) A (setAdd S v) Q E s
section
variable {P : Program} {w : World} {A : Around} {E : Value → Shared → Prop} {s : Shared}
theorem fill_loop {I : Addr} {fp wr : List Addr} {G : Array GenState → Array GenState → Prop} {n : Nat} {It : Nat → Value → Prop} {St : Nat → Shared → Prop} {R : Result → Shared → Prop} {S : Addr} {Kt : Nat → Heap → Prop}
    (W : WalksS P w A.in1 I fp wr G n It St) (Z : Fills P w S n It Kt) (away : S ∉ fp) :
    ∀ (k i : Nat) (s : Shared), n - i = k → i ≤ n → St i s → Kt i s.heap → (∀ s', Moved (S :: wr) G s s' → Kt n s'.heap → R (.ok (.ret .none)) s') →
      codeAny (model P w) A (.builtin "set.update.loop" ⟨[.ref S, .ref I], []⟩) R s := by
  have away2 : S ∉ wr := fun h => away (W.sub _ h)
  have more : ∀ b ∈ wr, b ∈ S :: wr := fun b hb => List.mem_cons_of_mem _ hb
  intro k
  induction k with
  | zero =>
    intro i s hk hi hst hS hR
    obtain rfl : i = n := by omega
    refine codeAny_builtin F.entry_set_update_loop ?_
    rw [Around.under_plainId F.plain_set_update_loop _]
    show wpAny _ A.in1 (pyNext (.ref I) >>= _) _ _ s
    refine wpAny_bind (W.done s _ _ hst fun s' hm => ?_)
    exact wpAny_pure (hR s' (hm.mono more) (Z.keep _ _ _ hS fun o e => hm.heap S o away2 e))
  | succ k ih =>
    intro i s hk hi hst hS hR
    have lt : i < n := by omega
    refine codeAny_builtin F.entry_set_update_loop ?_
    rw [Around.under_plainId F.plain_set_update_loop _]
    show wpAny _ A.in1 (pyNext (.ref I) >>= _) _ _ s
    refine wpAny_bind (W.item i s _ _ lt hst fun v s' hv hst' hm => ?_)
    show wpAny _ A.in1 (holding [v] (setAdd S v) >>= _) _ _ s'
    refine wpAny_bind (wpAny_holding (Z.add _ i v s' _ _ lt hv (Z.keep _ _ _ hS fun o e => hm.heap S o away2 e) fun b h' tk sb le hS2 => ?_))
    refine wpAny_pure ⟨plainId_quiet F.plain_set_update_loop _, ih (i + 1) _ (by omega) lt (W.frame _ s' _ _ hst' le fun c hc o e => ?_) hS2 fun s'' hm'' hS'' => ?_⟩
    · rw [sb.2 c (fun z => away (by rw [← z]; exact hc))]; exact e
    · refine hR s'' (Moved.trans W.gtrans ((hm.mono more).then_heap le fun c o hc e => ?_) hm'') hS''
      rw [sb.2 c (fun z => hc (by rw [z]; exact List.mem_cons_self))]; exact e
/-- set(list), its items told by It -/
theorem set_made {l : Addr} {items : Array Value} {It : Nat → Value → Prop} {Kt : Nat → Heap → Prop} {Q : Value → Shared → Prop} (hh : A.handled = none) (hl : s.heap.IsList l items) (hit : ∀ i v, items[i]? = some v → It i v)
    (Z : Fills P w s.heap.objs.size items.size It Kt) (h0 : ∀ h : Heap, h.get? s.heap.objs.size = some (bareSet w) → Kt 0 h)
    (h : ∀ (h' : Heap) (tk : Nat), Kt items.size h' → (∀ b o, s.heap.get? b = some o → h'.get? b = some o) → Q (.ref s.heap.objs.size) { s with heap := h', toks := tk }) :
    wpAny (model P w) A (call (.type "set") [.ref l]) Q E s := by
  obtain ⟨c, tl, hmro⟩ := F.called_set.mro
  have made := F.called_set.made
  have sub := F.called_set.sub
  refine wpAny_call (codeAny_of_tree ?_)
  show wpAny _ _ (callAny (.type "set") _) _ _ _
  refine wpAny_pure ⟨Code.quiet_builtin _ (by decide +kernel), codeAny_builtin F.entry_type_call ?_⟩
  rw [Around.under_plain (weight_type_call_type "set" [.ref l] []) rfl]
  have k1 := F.called_set.notType
  have k2 := F.called_set.canCreate
  have k3 := F.typeCall_set_1 (.ref l)
  repeat (any_goals (first | assumption | wp_step))
  have hN : (s.heap.push (bareSet w)).get? s.heap.objs.size = some (bareSet w) := Heap.get?_push_size _ rfl
  have oldN : ∀ b o, s.heap.get? b = some o → (s.heap.push (bareSet w)).get? b = some o := fun b o e => Heap.get?_push_of_some _ e
  have szN : (s.heap.push (bareSet w)).objs.size = s.heap.objs.size + 1 := Heap.size_push ..
  obtain ⟨N, hNe⟩ : ∃ N, s.heap.push (bareSet w) = N := ⟨_, rfl⟩
  rw [hNe] at hN oldN szN
  refine codeAny_mono (code_set_led1 (.ref l) (E := E) (Q₁ := fun obj s₁ => obj = .ref s.heap.objs.size ∧ s₁ = { s with heap := N }) ⟨rfl, by rw [hNe]⟩) fun r s₁ hr => ?_
  cases r with
  | error e => exact hr
  | ok fl =>
    cases fl with
    | ret obj =>
      obtain ⟨rfl, rfl⟩ := hr
      have hT : Shared.TypeIs { s with heap := N } (.ref s.heap.objs.size) "set" := ⟨_, hN, rfl⟩
      have k4 := F.called_set.init.lookup
      have k5 := F.called_set.init.bind (.ref s.heap.objs.size)
      repeat (any_goals (first | assumption | wp_step))
      refine codeAny_mono (codeAny_call_builtin (R := wants (fun r s₂ => r = .none ∧ ∃ h' tk, s₂ = { s with heap := h', toks := tk } ∧ Kt items.size h' ∧ (∀ b o, s.heap.get? b = some o → h'.get? b = some o)) E) F.called_set.init.plain F.entry_set_init (check_set_init_1 hT ?_)) fun r₂ s₂ hr₂ => ?_
      · have lt : l < s.heap.objs.size := by obtain ⟨ol, hol, _⟩ := hl; exact Heap.lt_size hol
        obtain ⟨⟨cls, dct, dat, slo⟩, hol, hcl, nl, hdl⟩ := hl
        simp only at hcl hdl
        subst hcl; subst hdl
        have holN := oldN _ _ hol
        have l1 : N.IsList l items := ⟨_, holN, rfl, nl, rfl⟩
        have k6 := F.sub_list_set
        have k7 := F.sub_list_frozenset
        have k8 : (Value.type "list" == Value.type "dict") = false := by decide
        unfold Builtin.«set.__init__» noKeywords Builtin.Frozenset.updateFrom
        generalize hPI : pyIter = PI
        wp_walk
        subst hPI
        refine wpAny_pyIter_list l1 ?_
        refine wpAny_bind (wpAny_runValue ?_)
        have noH : A.in1.in1.in1.handled = none := by simp [hh]
        have neI : l ≠ N.objs.size := by rw [szN]; exact Nat.ne_of_lt (Nat.lt_succ_of_lt lt)
        have away : s.heap.objs.size ∉ [N.objs.size, l] := by
          simp only [List.mem_cons, List.mem_singleton, List.not_mem_nil, or_false, not_or]
          rw [szN]
          exact ⟨Nat.ne_of_lt (Nat.lt_succ_self _), Nat.ne_of_gt lt⟩
        have fill := Walks.list (prog := P) (w := w) noH N.objs.size l neI items
        refine fill_loop (fill.toS) (S := s.heap.objs.size) (Kt := Kt) ⟨Z.keep, fun A' i v s' Q' E' hi hv hk q => Z.add A' i v s' Q' E' hi (hit i v hv) hk q⟩ away (items.size - 0) 0 _ (by omega) (Nat.zero_le _) ⟨⟨_, Heap.get?_push_size _ rfl, rfl, rfl⟩, l1.push _⟩ (h0 _ (Heap.get?_push_of_some _ hN)) ?_
        intro s' hm hS'
        obtain ⟨h', g2, d', tk', os'⟩ := s'
        have eg : g2 = s.gens := hm.gens
        have ed : d' = s.drawn := hm.drawn
        have eo : os' = s.os := hm.os
        subst eg; subst ed; subst eo
        show wpAny _ _ _ _ _ _
        refine wpAny_pure ?_
        show wpAny _ _ (ret Value.none) _ _ _
        refine wpAny_pure ⟨rfl, h', tk', rfl, hS', fun b o e => ?_⟩
        have hb := Heap.lt_size e
        exact hm.heap b o (by simp only [List.mem_cons, List.mem_singleton, List.not_mem_nil, or_false, not_or]; rw [szN]; exact ⟨Nat.ne_of_lt hb, Nat.ne_of_lt (Nat.lt_succ_of_lt hb)⟩) (Heap.get?_push_of_some _ (oldN _ _ e))
      · cases r₂ with
        | error e => exact hr₂
        | ok fl₂ =>
          cases fl₂ with
          | ret r =>
            obtain ⟨rfl, h', tk, rfl, hS', hk'⟩ := hr₂
            repeat (any_goals (first | assumption | wp_step))
            exact h _ _ hS' hk'
          | _ => exact hr₂.elim
    | _ => exact hr.elim
end
end Hw

set_option Elab.async false
set_option linter.all false
set_option maxRecDepth 100000
set_option maxHeartbeats 4000000
/-! sorted(set(texts)) -/
namespace Hw
open PySem PySem.Spec PyProof.Rows L2
open PySem.Froz (SD sObj TxOk addTx tailTx is_str add_ok add_x)
/-- the set of the texts l at a -/
def SetT (P : Program) (w : World) (h : Heap) (a : Addr) (l : List Str) : Prop := ∃ D : SD, h.get? a = some (sObj "set" D) ∧ TxOk P w D l ∧ Ris D.2.2.place.toList ∧ (w.params.followText "set-order" = true ∨ D.2.2.led = true)
theorem tailTx_ris {ep : Nat} {es1 : Array (Int × Value)} {t2 : SetTable} {b : Bool} (h : Ris t2.place.toList) : Ris (tailTx ep es1 t2 b).2.2.place.toList := by
  unfold tailTx
  split
  · exact relayAll_ris t2 es1 _
  · exact h
theorem tailTx_led {ep : Nat} {es1 : Array (Int × Value)} {t2 : SetTable} {b : Bool} : (tailTx ep es1 t2 b).2.2.led = t2.led := by
  unfold tailTx
  split
  · exact relayAll_led t2 es1 _
  · rfl
theorem addTx_ris {h : Int} {v : Value} {D : SD} (r : Ris D.2.2.place.toList) : Ris (addTx h v D).2.2.place.toList := by
  unfold addTx
  refine tailTx_ris ?_
  have := layNew_ris D.2.2 D.1 h v r
  split
  · exact this
  · exact this
theorem addTx_led {h : Int} {v : Value} {D : SD} : (addTx h v D).2.2.led = D.2.2.led := by
  unfold addTx
  rw [tailTx_led]
  have := layNew_led D.2.2 D.1 h v
  split
  · exact this
  · exact this
section
variable {P : Program} {w : World} {A : Around} {E : Value → Shared → Prop} {s : Shared}
/-- a text that stands in the set already -/
theorem add_there {a : Addr} {D : SD} {l : List Str} {k : Str} {u : Tok} {Q : Bool → Shared → Prop} (ho : s.heap.get? a = some (sObj "set" D)) (F : TxOk P w D l) (hk : k ∈ l) (hb : l.length < scanBound) (h : Q false s) : wpAny (model P w) A (setAddHashed a (.str k u) (hashStr w k)) Q E s := by
  obtain ⟨es, ep, t⟩ := D
  have hd : (sObj "set" (es, ep, t)).data = .set es ep t := rfl
  have hf : t.fits es.size = true := F.fit
  have hel : ElemsOf (strKind P w) es.toList := F.el
  have hsz : es.size = l.length := F.sz
  have hb0 : es.size < scanBound := by omega
  have hkey : (strKind P w).is k (.str k u) = true := is_str k u
  unfold setAddHashed setAddHashedIn
  refine wpAny_holding (wpAny_bind (wpAny_setState_of ho hd hf ?_))
  dsimp only
  rw [byScan_of rfl hb0 hel]
  simp only [↓reduceIte]
  unfold setAddByScan
  refine wpAny_bind ?_
  refine wpAny_bind (wpAny_rule ?_)
  refine wpAny_bind (wpAny_setScan_of (knd := strKind P w) (k := k) hkey ho hd hf hel ?_)
  cases hfi : List.findIdx? (fun e => (strKind P w).is k e.2) es.toList with
  | some j =>
    dsimp only
    exact wpAny_pure (wpAny_pure h)
  | none =>
    obtain ⟨e, he, q⟩ := (F.mem k).mp hk
    have c := List.findIdx?_eq_none_iff.mp hfi e he
    rw [q] at c
    cases c
theorem fills_texts {S : Addr} (xs : List Str) (hb : xs.length + 1 < scanBound) : Fills P w S xs.length (fun i v => ∃ k t, xs[i]? = some k ∧ v = .str k t) (fun i h => ∃ l : List Str, (∀ k, k ∈ l ↔ k ∈ xs.take i) ∧ l.Nodup ∧ l.length ≤ i ∧ SetT P w h S l) where
  keep := fun i h h' ⟨l, h1, h2, h3, D, ho, r⟩ k => ⟨l, h1, h2, h3, D, k _ ho, r⟩
  add := fun A i v s Q E hi hv hk q => by
    obtain ⟨z, t, hz, rfl⟩ := hv
    obtain ⟨l, h1, h2, h3, D, ho, F, hr, hl⟩ := hk
    have tk : ∀ k, k ∈ xs.take (i + 1) ↔ k ∈ xs.take i ∨ k = z := fun k => by rw [List.take_add_one, hz]; simp
    unfold setAdd
    refine wpAny_holding ?_
    refine wpAny_bind ((strKind P w).pyHash (k := z) (is_str z t) ?_)
    by_cases hzl : z ∈ l
    · refine add_there (s := { s with toks := s.toks + 1 }) ho F hzl (by omega) (q _ s.heap _ (Heap.SameBut.refl S s.heap) (Nat.le_succ _) ⟨l, fun k => ?_, h2, by omega, D, ho, F, hr, hl⟩)
      rw [tk, ← h1]
      exact ⟨.inl, fun h => h.elim id fun e => e ▸ hzl⟩
    · refine add_x (s := { s with toks := s.toks + 1 }) ho F hzl (by omega) ?_
      refine q _ _ _ (Heap.SameBut.update s.heap S _) (Nat.le_succ _) ⟨z :: l, fun k => ?_, List.nodup_cons.mpr ⟨hzl, h2⟩, by rw [List.length_cons]; omega, _, PySem.Froz.get_upd _ ho rfl, add_ok t F, addTx_ris hr, hl.imp id fun h => by rw [addTx_led]; exact h⟩
      rw [tk, List.mem_cons, ← h1]
      exact or_comm
theorem setT_new {a : Addr} {h : Heap} (hh : h.get? a = some (bareSet w)) : SetT P w h a [] :=
  ⟨(#[], 0, .fresh 0 0 (!w.params.followText "set-order")), hh, TxOk.nil rfl, List.Pairwise.nil, by
    cases w.params.followText "set-order" with
    | true => exact .inl rfl
    | false => exact .inr rfl⟩
theorem perm_of_sub : ∀ ks js : List Str, ks.Nodup → (∀ k ∈ ks, k ∈ js) → js.length ≤ ks.length → js.Perm ks
  | [], js, _, _, h => by rw [List.eq_nil_of_length_eq_zero (Nat.le_zero.mp h)]
  | k :: r, js, nd, sub, h => by
    obtain ⟨n1, n2⟩ := List.nodup_cons.mp nd
    have hk := sub k (List.mem_cons_self ..)
    have p := List.perm_cons_erase hk
    have hl := List.length_erase_of_mem hk
    have h : js.length ≤ r.length + 1 := h
    refine p.trans ((perm_of_sub r (js.erase k) n2 (fun j hj => ?_) (by omega)).cons k)
    exact (List.mem_erase_of_ne fun (e : j = k) => n1 (e ▸ hj)).mpr (sub j (List.mem_cons_of_mem _ hj))
/-- the values of the set are its texts -/
theorem setT_vals {D : SD} {l : List Str} (F : TxOk P w D l) {vs : List Value} (p : vs.Perm (D.1.toList.map (·.2))) : ∃ ks : List Str, StrsAre vs ks ∧ ∀ k, k ∈ ks ↔ k ∈ l := by
  have all : ∀ vs : List Value, (∀ v ∈ vs, ∃ k t, v = Value.str k t) → ∃ ks : List Str, StrsAre vs ks ∧ ∀ k, k ∈ ks ↔ ∃ t, Value.str k t ∈ vs := by
    intro vs
    induction vs with
    | nil => exact fun _ => ⟨[], .nil, fun k => by simp⟩
    | cons v r ih =>
      intro h
      obtain ⟨k, t, rfl⟩ := h v (List.mem_cons_self ..)
      obtain ⟨ks, h1, h2⟩ := ih fun u hu => h u (List.mem_cons_of_mem _ hu)
      refine ⟨k :: ks, .cons k t h1, fun j => ?_⟩
      rw [List.mem_cons, h2]
      constructor
      · rintro (rfl | ⟨t', h⟩)
        · exact ⟨t, List.mem_cons_self ..⟩
        · exact ⟨t', List.mem_cons_of_mem _ h⟩
      · rintro ⟨t', h⟩
        rcases List.mem_cons.mp h with e | e
        · injection e with e1 e2; exact .inl e1
        · exact .inr ⟨t', e⟩
  obtain ⟨ks, h1, h2⟩ := all vs fun v hv => by
    obtain ⟨e, he, rfl⟩ := List.mem_map.mp (p.mem_iff.mp hv)
    obtain ⟨⟨k, hk, _⟩, _⟩ := F.el e he
    obtain ⟨t, ht⟩ := Value.isStrOf_shape (x := k) (v := e.2) hk
    exact ⟨k, t, ht⟩
  refine ⟨ks, h1, fun k => ?_⟩
  rw [h2, F.mem]
  constructor
  · rintro ⟨t, h⟩
    obtain ⟨e, he, q⟩ := List.mem_map.mp (p.mem_iff.mp h)
    exact ⟨e, he, by rw [q]; exact is_str k t⟩
  · rintro ⟨e, he, q⟩
    obtain ⟨t, ht⟩ := Value.isStrOf_shape (x := k) (v := e.2) q
    exact ⟨t, p.mem_iff.mpr (List.mem_map.mpr ⟨e, he, ht⟩)⟩
end
section
variable {X : Cx}
def SetS (P : Program) (w : World) (a : Addr) (l : List Str) : HO := .ext fun h => SetT P w h a l
theorem setS_new {P : Program} {w : World} {H : Hp} {h : Heap} {a : Addr} {l : List Str} (R : SetT P w h a l) : ObjOk P w H h a (SetS P w a l) := by
  have ⟨D, ho, _⟩ := R
  exact ⟨R, ⟨_, ho⟩, fun h1 h2 ⟨D, ho, r⟩ k => ⟨D, k _ ho, r⟩⟩
/-- set(texts) -/
def rSetX (K : PySem.W.Frag) (P : Program) (w : World) : List V → Hp → VK → Prop := fun xs H Q => ∃ (l : Addr) (zs : List Str), xs = [.ref l] ∧ SqL K H l (zs.map V.str) ∧ zs.length ≤ 1000 ∧
  ∀ (a : Addr) (ys : List Str), ys.Nodup → (∀ k, k ∈ ys ↔ k ∈ zs) → ys.length ≤ zs.length → H a = none → Q (.ref a) (upd H a (SetS P w a ys))
theorem cr_setX (K : PySem.W.Frag) (hK : X.K = K) (hc : X.calm = true) : CallR X (.type "set") (rSetX K X.prog X.w) := by
  subst hK
  intro pins s σ H xs us Q I r h
  obtain ⟨l, zs, rfl, hs, small, q⟩ := h
  obtain ⟨its, rv, isl, most⟩ := I.list hs
  rw [Vals.ref1 r]
  have len : its.toArray.size = zs.length := by rw [List.size_toArray, ← rv.length, List.length_map]
  refine set_made (It := fun i v => ∃ k t, zs[i]? = some k ∧ v = .str k t) (Kt := fun i h => ∃ ys : List Str, (∀ k, k ∈ ys ↔ k ∈ zs.take i) ∧ ys.Nodup ∧ ys.length ≤ i ∧ SetT X.prog X.w h s.heap.objs.size ys) (I.ok.hd hc) isl.isList (fun i v hv => ?_) ?_ (fun h hh => ?_) fun h' tk hk old => ?_
  · have hi : i < zs.length := by rw [← len]; exact (Array.getElem?_eq_some_iff.mp hv).1
    obtain ⟨u, hu, t, e⟩ := rv.get (i := i) (x := .str zs[i]) (by simp [hi])
    refine ⟨zs[i], t, List.getElem?_eq_getElem hi, ?_⟩
    rw [List.getElem?_toArray, hu] at hv
    rw [← Option.some.inj hv, e]
  · rw [len]
    exact fills_texts zs (by show zs.length + 1 < 4096; omega)
  · exact ⟨[], fun k => by simp, List.nodup_nil, Nat.le_refl _, setT_new hh⟩
  · obtain ⟨ys, h1, h2, h3, R⟩ := hk
    rw [len] at h1 h3
    rw [List.take_length] at h1
    exact ⟨.ref _, upd H s.heap.objs.size (SetS X.prog X.w s.heap.objs.size ys), I.laid (t' := tk) old (Nat.le_refl _) (setS_new R), rfl, q _ _ h2 h1 h3 (I.hok.fresh (Nat.le_refl _))⟩
/-- sorted(set of texts) -/
def rSortedX (P : Program) (w : World) : List V → Hp → VK → Prop := fun vs H Q => ∃ (a : Addr) (ys : List Str), vs = [V.ref a] ∧ H a = some (SetS P w a ys) ∧ ys.Nodup ∧ ys.length < 64 ∧
  ∀ (zs : List Str) (p : Addr), zs.Perm ys → sortedS zs = true → H p = none → Q (.ref p) (upd H p (.lst (zs.map V.str)))
theorem cr_sortedX (hc : X.calm = true) : CallR X (.builtin "sorted") (rSortedX X.prog X.w) := by
  intro pins s σ H xs us Q I r h
  obtain ⟨a, ks, rfl, ha, nd, h64, q⟩ := h
  obtain ⟨D, ho, F, hr, hl⟩ : SetT X.prog X.w s.heap a ks := (I.hok a _ ha).1
  rw [Vals.ref1 r]
  have hsz : D.1.size = ks.length := F.sz
  refine Calls.call_function_entry PyProof.Rows.kind_sorted PyProof.Rows.plain_sorted PyProof.Rows.entry_sorted (PyProof.Rows.args_sorted1 _) ?_
  unfold Builtin.«sorted»
  refine wpAny_bind (m := checkCount "sorted" 1 1 _) (wpAny_pure ?_)
  refine wpAny_bind (collect_set (A := X.A.in1) (I.ok.hd hc) ⟨_, ho, rfl, rfl⟩ F.fit (by show D.1.size < 4096; omega) hr hl fun s1 vs k1 hz g1 o1 pm => ?_)
  obtain ⟨js, hS, hjs⟩ := setT_vals F pm
  have hvl : vs.length = ks.length := by rw [pm.length_eq, List.length_map, Array.length_toList, hsz]
  have hjl : js.length = ks.length := by rw [← hvl]; exact hS.length.symm
  refine wpAny_bind (wpAny_newList ?_ (by rw [hvl, sizeLine_eq]; omega))
  have hoL : (s1.heap.push (seqObj "list" vs.toArray 0)).get? s1.heap.objs.size = some (seqObj "list" vs.toArray 0) := Heap.get?_push_size _ rfl
  refine wpAny_bind (wpAny_holding (wpAny_call_entry PyProof.Rows.slot_list_sort ⟨_, hoL, rfl⟩ PyProof.Rows.entry_list_sort
    (list_sort_treeK strKind_oneLt (s := { s1 with heap := s1.heap.push (seqObj "list" vs.toArray 0) }) hoL hS.keysOf (fun v₁ v₂ rest e => keyKind_strs (by rw [← e]; exact hS)) (by rw [hvl]; exact h64) fun st' hp hs => ⟨_, rfl, ?_⟩)
    (PyProof.Rows.args_list_sort _)))
  obtain ⟨ys, g1', g2, g3⟩ := sorted_out_str hS hp hs
  obtain ⟨e', he'⟩ := PyProof.Rows.sortedHeap_at (vs := vs) (out := (arrOf st').map (·.2)) hoL
  have hlen : (ys.map V.str).length ≤ sizeLine := by
    rw [List.length_map, g2.length_eq, hjl]
    exact Nat.le_trans (Nat.le_of_lt h64) (by decide)
  have hn : H s1.heap.objs.size = none := I.hok.fresh hz
  have keep : ∀ b u, s.heap.get? b = some u → (PyProof.Rows.sortedHeap (s1.heap.push (seqObj "list" vs.toArray 0)) s1.heap.objs.size vs ((arrOf st').map (·.2))).get? b = some u := fun b u e => by
    have k := k1 b u e
    have hb : b < s1.heap.objs.size := Heap.lt_size k
    rw [PyProof.Rows.sortedHeap_old (Nat.ne_of_lt hb) (by rw [size_push']; exact Nat.lt_succ_of_lt hb)]
    exact Heap.get?_push_of_some _ k
  refine wpAny_pure ⟨_, rfl, .ref s1.heap.objs.size, upd H s1.heap.objs.size (.lst (ys.map V.str)), ?_, rfl, q ys _ (g2.trans ?_) g3 hn⟩
  · have J : Inv X pins σ (upd H s1.heap.objs.size (.lst (ys.map V.str))) { s with heap := PyProof.Rows.sortedHeap (s1.heap.push (seqObj "list" vs.toArray 0)) s1.heap.objs.size vs ((arrOf st').map (·.2)), gens := s1.gens, drawn := s1.drawn, toks := s1.toks } :=
      I.call (ch := []) (Un.laid keep hz hn) (I.hok.laid keep hz ⟨hlen, ((arrOf st').map (·.2)).toList, e', vals_of_strs g1', by rw [Array.toArray_toList]; exact he'⟩) (by rw [g1]; exact I.bare) (fun _ z => nomatch z)
    have e : ({ s1 with heap := PyProof.Rows.sortedHeap (s1.heap.push (seqObj "list" vs.toArray 0)) s1.heap.objs.size vs ((arrOf st').map (·.2)) } : Shared) = { s with heap := PyProof.Rows.sortedHeap (s1.heap.push (seqObj "list" vs.toArray 0)) s1.heap.objs.size vs ((arrOf st').map (·.2)), gens := s1.gens, drawn := s1.drawn, toks := s1.toks } := by
      rw [← o1]
    exact e ▸ J
  · exact perm_of_sub ks js nd (fun k hk => (hjs k).mpr hk) (by omega)
end
/-! over pure states -/
section
variable {g : GS} {te : TE} {KF : PySem.W.Frag} {K : Sl → GS → Prop} {P : Program} {w : World}
theorem EM.sortSetX {xs : List Str} (h : EX te g (.dat (.list (xs.map .str)))) (hz : xs.length < 64) (k : ∀ zs : List Str, zs.Nodup → (∀ z, z ∈ zs ↔ z ∈ xs) → PyProof.Rows.sortedS zs = true → K (.dat (.list (zs.map .str))) g) : EM (tCB (rSortedX P w) (tCons (tCB (rSetX KF P w) (tCons te tNil)) tNil)) g K := fun H0 σ H Q sat q => by
  refine h.go sat fun x H1 sat1 sm1 hx => ?_
  cases hx with
  | @lst l vs _ h1 h2 =>
    rw [strs_of xs h2] at h1
    refine ⟨l, xs, rfl, .inl (.inl (offs_at h1).2), by omega, fun a ys nd hm hl ha => ?_⟩
    refine ⟨a, ys, rfl, upd_same, nd, by omega, fun zs p pz srt hp => ?_⟩
    have s1 := same_new' (o := SetS P w a ys) ha
    have s2 := s1.trans (same_new' (o := .lst (zs.map V.str)) hp)
    have key : ∀ (l : List Str) (H : Hp), DtAll H (l.map V.str) (l.map .str) := by
      intro l H
      induction l with
      | nil => exact .nil
      | cons b r ih => exact .cons (.str _) ih
    refine q (.ref p) _ _ g (k zs (pz.nodup_iff.mpr nd) (fun z => by rw [pz.mem_iff]; exact hm z) srt) rfl (sat1.mono s2) (sm1.trans (offs_mono s2)) (.lst (offs_of (fun z => ?_) upd_same) (key zs _))
    obtain ⟨o, ho⟩ := (sat1.mono s1).dom p z
    rw [hp] at ho; cases ho
end
end Hw

set_option Elab.async false
set_option linter.all false
set_option maxRecDepth 100000
set_option maxHeartbeats 4000000
/-! values of expressions: tables asked by [], dict of pairs, bits, names that stand -/
namespace Hw
open PySem PySem.Spec PyProof.Rows L2
section
variable {g : GS} {te ta tb to : TE} {KF : PySem.W.Frag} {K : Sl → GS → Prop} {a : Addr} {w : World} {tab : List (Str × List Str)} {z : Str} {ks : List Str} {i j : Int} {n n0 : Nat}
theorem EM.kat (T : KTabs KF w a tab) (ha : EX ta g (.con (.ref a))) (hb : EX tb g (.dat (.str z))) (e : tab.lookup z = some ks) (k : ∀ p, (∀ H, SqT KF H p (ks.map V.str)) → K (.con (.ref p)) g) : EM (tOp (rIxD KF w) ta tb) g K := fun H0 σ H Q sat q => by
  refine ha.go sat fun x H1 sat1 sm1 hx => hb.go sat1 fun y H2 sat2 sm2 hy => ?_
  cases (show x = V.ref a from hx)
  obtain ⟨es, m, D⟩ := T.dict
  rcases T.at_ z with ⟨e1, e2⟩ | ⟨ks', p, e1, e2, e3⟩
  · rw [e1] at e; cases e
  · rw [e1] at e
    cases e
    exact ⟨a, z, .ref p, rfl, hold_str hy, ⟨es, m, .ref p, D.at_, D.lit, e2, rfl⟩, q _ H2 _ g (k p e3) rfl sat2 (sm1.trans sm2) rfl⟩
/-- xs.extend(e), xs one's own -/
theorem EM.extendO {ss0 : List Sl} (ht : EX to g (.con (.ref a))) (h0 : g.ow[n0]? = some (a, .lst ss0)) (h : EM te g fun s g1 => ∃ (n : Nat) (ss : List Sl) (ds : List PyData), s = .dat (.list ds) ∧ g1.ow[n]? = some (a, .lst ss) ∧ ss.length + ds.length ≤ 1000000 ∧ K (.dat .none) (g1.ownAt n a (.lst (ss ++ ds.map Sl.dat)))) : EM (tBM KF "list" rExtend to (tCons te tNil)) g K := fun H0 σ H Q sat q => by
  refine ht.go sat fun x H1 sat1 sm1 hx => ?_
  cases (show x = .ref a from hx)
  have run := h H0 σ H1 (fun y H2 => ∃ l b xs zs, V.ref a = .ref l ∧ [y] = [V.ref b] ∧ H2 l = some (.lst xs) ∧ H2 b = some (.lst zs) ∧ xs.length + zs.length ≤ sizeLine ∧ Q .non (upd H2 l (.lst (xs ++ zs)))) sat1 fun y H2 s g2 k2 e2 sat2 sm2 h2 => ?_
  · obtain ⟨vs, h3, _⟩ := sat1.ow _ (List.mem_of_getElem? h0)
    exact ⟨.inl ⟨rfl, vs, .inl (.inl h3)⟩, run⟩
  · obtain ⟨n, ss, ds, rfl, hn, hl, k⟩ := k2
    obtain ⟨vs, h3, h4⟩ := sat2.ow _ (List.mem_of_getElem? hn)
    have ia := own_in hn
    cases h2 with
    | @lst b zs _ h5 h6 =>
      refine ⟨a, b, vs, zs, rfl, rfl, h3, (offs_at h5).2, by rw [h4.len, h6.len, sizeLine_eq]; omega, ?_⟩
      have sm3 : Same (offs g2.l H2) (offs g2.l (upd H2 a (.lst (vs ++ zs)))) := fun b v hb => by rw [offs_upd ia]; exact hb
      exact q .non _ _ _ k e2 (sat2.updO hn ⟨_, upd_same, (h4.to sm3).app ((HoldA.of h6).to sm3)⟩) (sm1.trans (sm2.trans (by rw [GS.ownAt_l hn]; exact sm3))) .non
theorem mergeK_new : ∀ (more kvs : List (Key × V)), (more.map (·.1)).Nodup → (∀ k ∈ more.map (·.1), k ∉ kvs.map (·.1)) → mergeK kvs more = kvs ++ more
  | [], kvs, _, _ => by unfold mergeK; rw [List.foldl_nil, List.append_nil]
  | p :: r, kvs, nd, out => by
    rw [List.map_cons, List.nodup_cons] at nd
    have e1 : putK kvs p.1 p.2 = kvs ++ [p] := by
      unfold putK
      rw [if_neg]
      intro h
      obtain ⟨q, hq, e⟩ := List.any_eq_true.mp h
      exact out p.1 (List.mem_cons_self ..) (List.mem_map.mpr ⟨q, hq, of_decide_eq_true e⟩)
    have ih := mergeK_new r (kvs ++ [p]) nd.2 fun k hk h => by
      rw [List.map_append, List.mem_append] at h
      rcases h with h | h
      · exact out k (List.mem_cons_of_mem _ hk) h
      · rw [List.mem_singleton.mp h] at hk
        exact nd.1 hk
    unfold mergeK at ih ⊢
    rw [List.foldl_cons, e1, ih, List.append_assoc]
    rfl
/-- dict(pairs) -/
theorem EX.dictP {kvs : List (Str × Int)} (h : EX te g (.dat (.list (kvs.map tiD)))) (nd : (kvs.map (·.1)).Nodup) : EX (tCB (fun xs H Q => ∃ (a : Addr) (ps : List Addr) (kvs : List (Key × V)), xs = [.ref a] ∧ SqL KF H a (ps.map V.ref) ∧ Paired (fun p kv => SqT KF H p [kV kv.1, kv.2]) ps kvs ∧ ∀ p, H p = none → Q (.ref p) (upd H p (.dK (mergeK [] kvs)))) (tCons te tNil)) g (.dat (dictD kvs)) :=
  EX.of fun H0 σ H Q sat q => h.go sat fun x H1 sat1 sm1 hx => by
    cases hx with
    | @lst l vs _ h1 h2 =>
      obtain ⟨ps, e1, e2, e3⟩ := dt_ti kvs h2
      subst e1
      refine ⟨l, ps, kvs.map fun p => (.inr p.1, .int p.2), rfl, .inl (.inl (offs_at h1).2), ?_, fun p hp => ?_⟩
      · have key : ∀ (ps : List Addr) (kvs : List (Str × Int)), ps.length = kvs.length → (∀ (i : Nat) (p : Addr) (x : Str × Int), ps[i]? = some p → kvs[i]? = some x → offs g.l H1 p = some (.tup [.str x.1, .int x.2])) → Paired (fun p kv => SqT KF H1 p [kV kv.1, kv.2]) ps (kvs.map fun p => ((.inr p.1 : Key), V.int p.2)) := by
          intro ps
          induction ps with
          | nil => intro kvs hl _; cases kvs with
            | nil => exact .nil
            | cons x r => cases hl
          | cons p r ih => intro kvs hl h; cases kvs with
            | nil => cases hl
            | cons x xs => exact .cons (.inl (.inl (offs_at (h 0 p x rfl rfl)).2)) (ih xs (Nat.succ.inj hl) fun i p x a b => h (i + 1) p x a b)
        exact key ps kvs e2 e3
      · have em : mergeK [] (kvs.map fun p => ((.inr p.1 : Key), V.int p.2)) = kvs.map fun p => ((.inr p.1 : Key), V.int p.2) := by
          rw [mergeK_new _ [] ?_ (fun k _ h => nomatch h), List.nil_append]
          rw [List.map_map]
          have : (kvs.map (·.1)).map (Sum.inr : Str → Key) = kvs.map ((·.1) ∘ fun p => ((.inr p.1 : Key), V.int p.2)) := by rw [List.map_map]; rfl
          rw [← this]
          exact List.pairwise_map.mpr (nd.imp fun h e => h (Sum.inr.inj e))
        rw [em]
        have sm := same_new' (o := .dK (kvs.map fun p => ((.inr p.1 : Key), V.int p.2))) hp
        exact q _ _ (sat1.mono sm) (sm1.trans (offs_mono sm)) (.dic kvs (offs_of (sat1.newNot hp) upd_same))
theorem EX.andM {k : Nat} (h : EX ta g (.dat (.int i))) (hb : EX tb g (.dat (.int (2 ^ k - 1)))) : EX (tOp (fun x y H Q => ∃ (i : Int) (k : Nat), x = .int i ∧ y = .int (2 ^ k - 1) ∧ Q (.int (i % 2 ^ k)) H) ta tb) g (.dat (.int (i % 2 ^ k))) := h.op hb fun H0 σ H x y Q _ a b q => ⟨i, k, hold_int a, hold_int b, q _ H (Same.refl _) (.int _)⟩
theorem EX.min2 (h : EX ta g (.dat (.int i))) (hb : EX tb g (.dat (.int j))) : EX (tCB (fun xs H Q => ∃ i j, xs = [.int i, .int j] ∧ Q (.int (if j < i then j else i)) H) (tCons ta (tCons tb tNil))) g (.dat (.int (if j < i then j else i))) :=
  EX.cb (EAX.cons h (EAX.cons hb EAX.nil)) fun H0 σ H ys Q sat a q => by
    cases a with
    | cons a1 a2 =>
      cases a2 with
      | cons a2 a3 =>
        cases a3
        rw [hold_int a1, hold_int a2]
        exact ⟨i, j, rfl, q _ H (Same.refl _) (.int _)⟩
theorem EX.max2 (h : EX ta g (.dat (.int i))) (hb : EX tb g (.dat (.int j))) : EX (tCB (fun xs H Q => ∃ i j, xs = [.int i, .int j] ∧ Q (.int (if i < j then j else i)) H) (tCons ta (tCons tb tNil))) g (.dat (.int (if i < j then j else i))) :=
  EX.cb (EAX.cons h (EAX.cons hb EAX.nil)) fun H0 σ H ys Q sat a q => by
    cases a with
    | cons a1 a2 =>
      cases a2 with
      | cons a2 a3 =>
        cases a3
        rw [hold_int a1, hold_int a2]
        exact ⟨i, j, rfl, q _ H (Same.refl _) (.int _)⟩
end
theorem bxor_nat (a b : Nat) : Builtin.bitXor (a : Int) (b : Int) = ((a ^^^ b : Nat) : Int) := by
  rw [Bits.bitXor_pp (Int.natCast_nonneg a) (Int.natCast_nonneg b)]; rfl
/-! names that stand in an expression -/
namespace Et
def subs : Et → List Et
  | .int _ => []
  | .nm _ => []
  | .turned a => [a]
  | .times _ a => [a]
  | .up _ a => [a]
  | .down _ a => [a]
  | .bin _ a b => [a, b]
def nms : Et → List Str
  | .int _ => []
  | .nm z => [z]
  | .turned a => a.nms
  | .times _ a => a.nms
  | .up _ a => a.nms
  | .down _ a => a.nms
  | .bin _ a b => a.nms ++ b.nms
theorem subs_ok {ns : List Str} {n : Nat} : ∀ (e : Et), e.ok ns → e.depth ≤ n + 1 → ∀ a ∈ e.subs, a.ok ns ∧ a.depth ≤ n
  | .int _, _, _, a, h => nomatch h
  | .nm _, _, _, a, h => nomatch h
  | .turned b, h1, h2, a, h => by rw [List.mem_singleton.mp h]; exact ⟨h1, Nat.le_of_succ_le_succ h2⟩
  | .times _ b, h1, h2, a, h => by rw [List.mem_singleton.mp h]; exact ⟨h1.2, Nat.le_of_succ_le_succ h2⟩
  | .up _ b, h1, h2, a, h => by rw [List.mem_singleton.mp h]; exact ⟨h1.2, Nat.le_of_succ_le_succ h2⟩
  | .down _ b, h1, h2, a, h => by rw [List.mem_singleton.mp h]; exact ⟨h1.2, Nat.le_of_succ_le_succ h2⟩
  | .bin _ b c, h1, h2, a, h => by
    have h2 : max b.depth c.depth ≤ n := Nat.le_of_succ_le_succ h2
    rcases List.mem_cons.mp h with rfl | h
    · exact ⟨h1.1, by omega⟩
    · rw [List.mem_singleton.mp h]; exact ⟨h1.2, by omega⟩
theorem nms_subs : ∀ e : Et, (∀ z, e ≠ .nm z) → e.nms = e.subs.flatMap nms
  | .int _, _ => rfl
  | .nm z, h => absurd rfl (h z)
  | .turned a, _ => by simp [nms, subs]
  | .times _ a, _ => by simp [nms, subs]
  | .up _ a, _ => by simp [nms, subs]
  | .down _ a, _ => by simp [nms, subs]
  | .bin _ a b, _ => by simp [nms, subs]
theorem nms_mem {ns : List Str} : ∀ e : Et, e.ok ns → ∀ z ∈ e.nms, z ∈ ns
  | .int _, _, z, h => nomatch h
  | .nm y, h1, z, h => by rw [List.mem_singleton.mp h]; exact h1
  | .turned a, h1, z, h => nms_mem a h1 z h
  | .times _ a, h1, z, h => nms_mem a h1.2 z h
  | .up _ a, h1, z, h => nms_mem a h1.2 z h
  | .down _ a, h1, z, h => nms_mem a h1.2 z h
  | .bin _ a b, h1, z, h => by
    rcases List.mem_append.mp h with h | h
    · exact nms_mem a h1.1 z h
    · exact nms_mem b h1.2 z h
theorem nms_ok {ns : List Str} : ∀ e : Et, e.ok ns → e.ok e.nms := by
  have more : ∀ (e : Et) (ns ms : List Str), (∀ z ∈ ns, z ∈ ms) → e.ok ns → e.ok ms := by
    intro e
    induction e with
    | int i => intro ns ms _ h; exact h
    | nm z => intro ns ms s h; exact s z h
    | turned a ih => intro ns ms s h; exact ih ns ms s h
    | times i a ih => intro ns ms s h; exact ⟨h.1, ih ns ms s h.2⟩
    | up i a ih => intro ns ms s h; exact ⟨h.1, ih ns ms s h.2⟩
    | down i a ih => intro ns ms s h; exact ⟨h.1, ih ns ms s h.2⟩
    | bin o a b iha ihb => intro ns ms s h; exact ⟨iha ns ms s h.1, ihb ns ms s h.2⟩
  intro e
  induction e with
  | int i => exact fun h => h
  | nm z => exact fun _ => List.mem_singleton.mpr rfl
  | turned a ih => exact fun h => ih h
  | times i a ih => exact fun h => ⟨h.1, ih h.2⟩
  | up i a ih => exact fun h => ⟨h.1, ih h.2⟩
  | down i a ih => exact fun h => ⟨h.1, ih h.2⟩
  | bin o a b iha ihb => exact fun h => ⟨more a _ _ (fun z hz => List.mem_append_left _ hz) (iha h.1), more b _ _ (fun z hz => List.mem_append_right _ hz) (ihb h.2)⟩
theorem nms_len : ∀ (e : Et) (n : Nat), e.depth ≤ n → e.nms.length ≤ 2 ^ n := by
  have p1 : ∀ n : Nat, 1 ≤ 2 ^ n := fun n => Nat.pow_pos (by decide)
  intro e
  induction e with
  | int i => intro n _; exact Nat.zero_le _
  | nm z => intro n _; exact p1 n
  | turned a ih => intro n h; exact ih n (Nat.le_of_succ_le h)
  | times i a ih => intro n h; exact ih n (Nat.le_of_succ_le h)
  | up i a ih => intro n h; exact ih n (Nat.le_of_succ_le h)
  | down i a ih => intro n h; exact ih n (Nat.le_of_succ_le h)
  | bin o a b iha ihb => intro n h; cases n with
    | zero => exact absurd h (Nat.not_succ_le_zero _)
    | succ n =>
      have h : max a.depth b.depth ≤ n := Nat.le_of_succ_le_succ h
      have h1 := iha n (by omega)
      have h2 := ihb n (by omega)
      show (a.nms ++ b.nms).length ≤ _
      rw [List.length_append, Nat.pow_succ]; omega
end Et
theorem ltCps_asym (x y : Str) (h : ltCps x.cps.toList y.cps.toList = false) (k : ltCps y.cps.toList x.cps.toList = false) : x = y := by
  rw [ltCps_eq] at h k
  have e := List.le_antisymm (List.not_lt.mp (of_decide_eq_false k)) (List.not_lt.mp (of_decide_eq_false h))
  obtain ⟨⟨l⟩⟩ := x
  obtain ⟨⟨m⟩⟩ := y
  cases (show l = m from e)
  rfl
/-- sorted lists of the same texts, each once: one list -/
theorem txt_uniq {a b : List Str} (na : a.Nodup) (nb : b.Nodup) (sa : PyProof.Rows.sortedS a = true) (sb : PyProof.Rows.sortedS b = true) (m : ∀ z, z ∈ a ↔ z ∈ b) : a = b :=
  srt_uniq (lt := fun x y => ltCps x.cps.toList y.cps.toList) ltCps_asym a b ((List.perm_ext_iff_of_nodup na nb).mpr m) (sorted_lt sa) (sorted_lt sb)
end Hw
namespace Hw
/-- the claims' table -/
def claimT : List (PySem.Str × List PySem.Str) := [("same", ["expression", "expression"]), ("below", ["expression", "expression"]), ("under", ["expression", "expression"]), ("bit", ["count", "expression"]), ("top", ["expression"]), ("not", ["claim"]), ("then", ["claim", "claim"]), ("iff", ["claim", "claim"]), ("some", ["name", "claim"]), ("all", ["name", "claim"]), ("told", ["table", "names"])]
end Hw

set_option Elab.async false
set_option linter.all false
set_option maxRecDepth 100000
set_option maxHeartbeats 4000000

namespace K07
open PySem PySem.Spec PyProof.Rows L2 Hw
def topS (i : Nat) : Stmt := PySem.Challenge.pw_howeverwide_k07_whole_values.main.body.getD i (.Pass ⟨0, 0, 0, 0⟩)
abbrev s_is_whole : Stmt := topS 8
theorem sc_is_whole : FnScope ["value"] ["value"] (defScope s_is_whole) := ⟨rfl, rfl, rfl, by decide +kernel, rfl, by decide +kernel, by decide +kernel⟩
abbrev s_is_count : Stmt := topS 9
theorem sc_is_count : FnScope ["value"] ["value"] (defScope s_is_count) := ⟨rfl, rfl, rfl, by decide +kernel, rfl, by decide +kernel, by decide +kernel⟩
abbrev s_is_count_to : Stmt := topS 10
theorem sc_is_count_to : FnScope ["value", "most"] ["value", "most"] (defScope s_is_count_to) := ⟨rfl, rfl, rfl, by decide +kernel, rfl, by decide +kernel, by decide +kernel⟩
abbrev s_is_word_of : Stmt := topS 11
theorem sc_is_word_of : FnScope ["width", "value"] ["width", "value"] (defScope s_is_word_of) := ⟨rfl, rfl, rfl, by decide +kernel, rfl, by decide +kernel, by decide +kernel⟩
abbrev s_check_width : Stmt := topS 12
theorem sc_check_width : FnScope ["width"] ["width"] (defScope s_check_width) := ⟨rfl, rfl, rfl, by decide +kernel, rfl, by decide +kernel, by decide +kernel⟩
abbrev s_check_width_to : Stmt := topS 13
theorem sc_check_width_to : FnScope ["width", "most"] ["width", "most"] (defScope s_check_width_to) := ⟨rfl, rfl, rfl, by decide +kernel, rfl, by decide +kernel, by decide +kernel⟩
abbrev s_is_name : Stmt := topS 24
theorem sc_is_name : FnScope ["value", "letters"] ["value"] (defScope s_is_name) := ⟨rfl, rfl, rfl, by decide +kernel, rfl, by decide +kernel, by decide +kernel⟩
abbrev s_is_name_end : Stmt := topS 25
theorem sc_is_name_end : FnScope ["text", "sign"] ["text"] (defScope s_is_name_end) := ⟨rfl, rfl, rfl, by decide +kernel, rfl, by decide +kernel, by decide +kernel⟩
abbrev s_first_word : Stmt := topS 26
theorem sc_first_word : FnScope ["value"] ["value"] (defScope s_first_word) := ⟨rfl, rfl, rfl, by decide +kernel, rfl, by decide +kernel, by decide +kernel⟩
abbrev s_fits : Stmt := topS 27
theorem sc_fits : FnScope ["kind", "value"] ["kind", "value"] (defScope s_fits) := ⟨rfl, rfl, rfl, by decide +kernel, rfl, by decide +kernel, by decide +kernel⟩
abbrev s_has_parts : Stmt := topS 28
theorem sc_has_parts : FnScope ["kinds", "value", "kind", "part"] ["kinds", "value"] (defScope s_has_parts) := ⟨rfl, rfl, rfl, by decide +kernel, rfl, by decide +kernel, by decide +kernel⟩
abbrev s_is_expression : Stmt := topS 29
theorem sc_is_expression : FnScope ["value"] ["value"] (defScope s_is_expression) := ⟨rfl, rfl, rfl, by decide +kernel, rfl, by decide +kernel, by decide +kernel⟩
abbrev s_claim_parts : Stmt := topS 31
theorem sc_claim_parts : FnScope ["value", "word"] ["value"] (defScope s_claim_parts) := ⟨rfl, rfl, rfl, by decide +kernel, rfl, by decide +kernel, by decide +kernel⟩
abbrev s_is_filling_of : Stmt := topS 34
theorem sc_is_filling_of : FnScope ["width", "names", "value", "name", "item"] ["width", "names", "value"] (defScope s_is_filling_of) := ⟨rfl, rfl, rfl, by decide +kernel, rfl, by decide +kernel, by decide +kernel⟩
abbrev s_is_filled : Stmt := topS 35
theorem sc_is_filled : FnScope ["width", "name", "value"] ["width", "name", "value"] (defScope s_is_filled) := ⟨rfl, rfl, rfl, by decide +kernel, rfl, by decide +kernel, by decide +kernel⟩
abbrev s_check_expression : Stmt := topS 36
theorem sc_check_expression : FnScope ["expression"] ["expression"] (defScope s_check_expression) := ⟨rfl, rfl, rfl, by decide +kernel, rfl, by decide +kernel, by decide +kernel⟩
abbrev s_check_filling : Stmt := topS 37
theorem sc_check_filling : FnScope ["width", "names", "filling"] ["width", "names", "filling"] (defScope s_check_filling) := ⟨rfl, rfl, rfl, by decide +kernel, rfl, by decide +kernel, by decide +kernel⟩
abbrev s_parts_of : Stmt := topS 38
theorem sc_parts_of : FnScope ["knot", "kinds", "kind", "part"] ["knot"] (defScope s_parts_of) := ⟨rfl, rfl, rfl, by decide +kernel, rfl, by decide +kernel, by decide +kernel⟩
abbrev s_names_standing : Stmt := topS 39
theorem sc_names_standing : FnScope ["knot", "names", "part"] ["knot"] (defScope s_names_standing) := ⟨rfl, rfl, rfl, by decide +kernel, rfl, by decide +kernel, by decide +kernel⟩
abbrev s_names_of_expression : Stmt := topS 40
theorem sc_names_of_expression : FnScope ["expression"] ["expression"] (defScope s_names_of_expression) := ⟨rfl, rfl, rfl, by decide +kernel, rfl, by decide +kernel, by decide +kernel⟩
abbrev s_value : Stmt := topS 42
theorem sc_value : FnScope ["width", "expression", "filling"] ["width", "expression", "filling"] (defScope s_value) := ⟨rfl, rfl, rfl, by decide +kernel, rfl, by decide +kernel, by decide +kernel⟩
abbrev s_value_with : Stmt := topS 43
theorem sc_value_with : FnScope ["width", "expression", "words"] ["width", "expression", "words"] (defScope s_value_with) := ⟨rfl, rfl, rfl, by decide +kernel, rfl, by decide +kernel, by decide +kernel⟩
abbrev s_plain_value : Stmt := topS 44
theorem sc_plain_value : FnScope ["width", "expression", "words", "word", "last", "first"] ["width", "expression", "words"] (defScope s_plain_value) := ⟨rfl, rfl, rfl, by decide +kernel, rfl, by decide +kernel, by decide +kernel⟩
abbrev s_law_hash : Stmt := topS 46
theorem sc_law_hash : FnScope ["_law_seed", "_law_index", "_law_mixed"] ["_law_seed", "_law_index"] (defScope s_law_hash) := ⟨rfl, rfl, rfl, by decide +kernel, rfl, by decide +kernel, by decide +kernel⟩
abbrev s_law_random : Stmt := topS 47
theorem sc_law_random : FnScope ["_law_generator_here", "_law_bound", "_law_drawn", "_law_turn"] ["_law_generator_here", "_law_bound"] (defScope s_law_random) := ⟨rfl, rfl, rfl, by decide +kernel, rfl, by decide +kernel, by decide +kernel⟩
abbrev s_law_cell : Stmt := topS 48
theorem sc_law_cell : FnScope ["_law_script", "_law_index"] ["_law_script", "_law_index"] (defScope s_law_cell) := ⟨rfl, rfl, rfl, by decide +kernel, rfl, by decide +kernel, by decide +kernel⟩
abbrev s_law_generator : Stmt := topS 49
theorem sc_law_generator : FnScope ["_law_script", "_law_index", "_law_seed"] ["_law_script", "_law_index"] (defScope s_law_generator) := ⟨rfl, rfl, rfl, by decide +kernel, rfl, by decide +kernel, by decide +kernel⟩
abbrev s_law_power : Stmt := topS 50
theorem sc_law_power : FnScope ["_law_many", "_law_found", "_law_turn"] ["_law_many"] (defScope s_law_power) := ⟨rfl, rfl, rfl, by decide +kernel, rfl, by decide +kernel, by decide +kernel⟩
abbrev s_law_bit : Stmt := topS 51
theorem sc_law_bit : FnScope ["_law_word", "_law_place"] ["_law_word", "_law_place"] (defScope s_law_bit) := ⟨rfl, rfl, rfl, by decide +kernel, rfl, by decide +kernel, by decide +kernel⟩
abbrev s_law_value : Stmt := topS 52
theorem sc_law_value : FnScope ["_law_width", "_law_told", "_law_words_here", "_law_whole", "_law_parts", "_law_inner", "_law_found", "_law_place", "_law_many", "_law_wanted", "_law_part"] ["_law_width", "_law_told", "_law_words_here"] (defScope s_law_value) := ⟨rfl, rfl, rfl, by decide +kernel, rfl, by decide +kernel, by decide +kernel⟩
abbrev s_law_expression : Stmt := topS 56
theorem sc_law_expression : FnScope ["_law_generator_here", "_law_names", "_law_deep", "_law_way", "_law_op", "_law_number"] ["_law_generator_here", "_law_names", "_law_deep"] (defScope s_law_expression) := ⟨rfl, rfl, rfl, by decide +kernel, rfl, by decide +kernel, by decide +kernel⟩
abbrev s_law_told_names : Stmt := topS 59
theorem sc_law_told_names : FnScope ["_law_told", "_law_found", "_law_part"] ["_law_told"] (defScope s_law_told_names) := ⟨rfl, rfl, rfl, by decide +kernel, rfl, by decide +kernel, by decide +kernel⟩
abbrev s_law_words : Stmt := topS 62
theorem sc_law_words : FnScope ["_law_filling", "_law_found", "_law_name", "_law_word"] ["_law_filling"] (defScope s_law_words) := ⟨rfl, rfl, rfl, by decide +kernel, rfl, by decide +kernel, by decide +kernel⟩
abbrev s_law_right : Stmt := topS 63
theorem sc_law_right : FnScope ["_law_generator_here", "_law_names", "_law_told", "_law_found", "_law_width", "_law_filling", "_law_kept", "_law_due", "_law_twice", "_law_shift", "_law_name"] ["_law_generator_here"] (defScope s_law_right) := ⟨rfl, rfl, rfl, by decide +kernel, rfl, by decide +kernel, by decide +kernel⟩
abbrev s_law_wide_right : Stmt := topS 64
theorem sc_law_wide_right : FnScope ["_law_generator_here", "_law_names", "_law_parts", "_law_told", "_law_turn", "_law_width", "_law_filling", "_law_name"] ["_law_generator_here"] (defScope s_law_wide_right) := ⟨rfl, rfl, rfl, by decide +kernel, rfl, by decide +kernel, by decide +kernel⟩
abbrev s_law : Stmt := topS 65
theorem sc_law : FnScope ["_law_script", "_law_index", "_law_far", "_law_told"] ["_law_script"] (defScope s_law) := ⟨rfl, rfl, rfl, by decide +kernel, rfl, by decide +kernel, by decide +kernel⟩
/-- what the top has written -/
structure Tx (w : World) (K : PySem.W.Frag) (mg : Str → Option Value) where
  a_is_whole : Addr
  d_is_whole : FuncData
  F_is_whole : DefAt K "is_whole" s_is_whole a_is_whole d_is_whole
  g_is_whole : mg "is_whole" = some (.ref a_is_whole)
  a_is_count : Addr
  d_is_count : FuncData
  F_is_count : DefAt K "is_count" s_is_count a_is_count d_is_count
  g_is_count : mg "is_count" = some (.ref a_is_count)
  a_is_count_to : Addr
  d_is_count_to : FuncData
  F_is_count_to : DefAt K "is_count_to" s_is_count_to a_is_count_to d_is_count_to
  g_is_count_to : mg "is_count_to" = some (.ref a_is_count_to)
  a_is_word_of : Addr
  d_is_word_of : FuncData
  F_is_word_of : DefAt K "is_word_of" s_is_word_of a_is_word_of d_is_word_of
  g_is_word_of : mg "is_word_of" = some (.ref a_is_word_of)
  a_check_width : Addr
  d_check_width : FuncData
  F_check_width : DefAt K "check_width" s_check_width a_check_width d_check_width
  g_check_width : mg "check_width" = some (.ref a_check_width)
  a_check_width_to : Addr
  d_check_width_to : FuncData
  F_check_width_to : DefAt K "check_width_to" s_check_width_to a_check_width_to d_check_width_to
  g_check_width_to : mg "check_width_to" = some (.ref a_check_width_to)
  a_is_name : Addr
  d_is_name : FuncData
  F_is_name : DefAt K "is_name" s_is_name a_is_name d_is_name
  g_is_name : mg "is_name" = some (.ref a_is_name)
  a_is_name_end : Addr
  d_is_name_end : FuncData
  F_is_name_end : DefAt K "is_name_end" s_is_name_end a_is_name_end d_is_name_end
  g_is_name_end : mg "is_name_end" = some (.ref a_is_name_end)
  a_first_word : Addr
  d_first_word : FuncData
  F_first_word : DefAt K "first_word" s_first_word a_first_word d_first_word
  g_first_word : mg "first_word" = some (.ref a_first_word)
  a_fits : Addr
  d_fits : FuncData
  F_fits : DefAt K "fits" s_fits a_fits d_fits
  g_fits : mg "fits" = some (.ref a_fits)
  a_has_parts : Addr
  d_has_parts : FuncData
  F_has_parts : DefAt K "has_parts" s_has_parts a_has_parts d_has_parts
  g_has_parts : mg "has_parts" = some (.ref a_has_parts)
  a_is_expression : Addr
  d_is_expression : FuncData
  F_is_expression : DefAt K "is_expression" s_is_expression a_is_expression d_is_expression
  g_is_expression : mg "is_expression" = some (.ref a_is_expression)
  a_claim_parts : Addr
  d_claim_parts : FuncData
  F_claim_parts : DefAt K "claim_parts" s_claim_parts a_claim_parts d_claim_parts
  g_claim_parts : mg "claim_parts" = some (.ref a_claim_parts)
  a_is_filling_of : Addr
  d_is_filling_of : FuncData
  F_is_filling_of : DefAt K "is_filling_of" s_is_filling_of a_is_filling_of d_is_filling_of
  g_is_filling_of : mg "is_filling_of" = some (.ref a_is_filling_of)
  a_is_filled : Addr
  d_is_filled : FuncData
  F_is_filled : DefAt K "is_filled" s_is_filled a_is_filled d_is_filled
  g_is_filled : mg "is_filled" = some (.ref a_is_filled)
  a_check_expression : Addr
  d_check_expression : FuncData
  F_check_expression : DefAt K "check_expression" s_check_expression a_check_expression d_check_expression
  g_check_expression : mg "check_expression" = some (.ref a_check_expression)
  a_check_filling : Addr
  d_check_filling : FuncData
  F_check_filling : DefAt K "check_filling" s_check_filling a_check_filling d_check_filling
  g_check_filling : mg "check_filling" = some (.ref a_check_filling)
  a_parts_of : Addr
  d_parts_of : FuncData
  F_parts_of : DefAt K "parts_of" s_parts_of a_parts_of d_parts_of
  g_parts_of : mg "parts_of" = some (.ref a_parts_of)
  a_names_standing : Addr
  d_names_standing : FuncData
  F_names_standing : DefAt K "names_standing" s_names_standing a_names_standing d_names_standing
  g_names_standing : mg "names_standing" = some (.ref a_names_standing)
  a_names_of_expression : Addr
  d_names_of_expression : FuncData
  F_names_of_expression : DefAt K "names_of_expression" s_names_of_expression a_names_of_expression d_names_of_expression
  g_names_of_expression : mg "names_of_expression" = some (.ref a_names_of_expression)
  a_value : Addr
  d_value : FuncData
  F_value : DefAt K "value" s_value a_value d_value
  g_value : mg "value" = some (.ref a_value)
  a_value_with : Addr
  d_value_with : FuncData
  F_value_with : DefAt K "value_with" s_value_with a_value_with d_value_with
  g_value_with : mg "value_with" = some (.ref a_value_with)
  a_plain_value : Addr
  d_plain_value : FuncData
  F_plain_value : DefAt K "plain_value" s_plain_value a_plain_value d_plain_value
  g_plain_value : mg "plain_value" = some (.ref a_plain_value)
  a_law_hash : Addr
  d_law_hash : FuncData
  F_law_hash : DefAt K "_law_hash" s_law_hash a_law_hash d_law_hash
  g_law_hash : mg "_law_hash" = some (.ref a_law_hash)
  a_law_random : Addr
  d_law_random : FuncData
  F_law_random : DefAt K "_law_random" s_law_random a_law_random d_law_random
  g_law_random : mg "_law_random" = some (.ref a_law_random)
  a_law_cell : Addr
  d_law_cell : FuncData
  F_law_cell : DefAt K "_law_cell" s_law_cell a_law_cell d_law_cell
  g_law_cell : mg "_law_cell" = some (.ref a_law_cell)
  a_law_generator : Addr
  d_law_generator : FuncData
  F_law_generator : DefAt K "_law_generator" s_law_generator a_law_generator d_law_generator
  g_law_generator : mg "_law_generator" = some (.ref a_law_generator)
  a_law_power : Addr
  d_law_power : FuncData
  F_law_power : DefAt K "_law_power" s_law_power a_law_power d_law_power
  g_law_power : mg "_law_power" = some (.ref a_law_power)
  a_law_bit : Addr
  d_law_bit : FuncData
  F_law_bit : DefAt K "_law_bit" s_law_bit a_law_bit d_law_bit
  g_law_bit : mg "_law_bit" = some (.ref a_law_bit)
  a_law_value : Addr
  d_law_value : FuncData
  F_law_value : DefAt K "_law_value" s_law_value a_law_value d_law_value
  g_law_value : mg "_law_value" = some (.ref a_law_value)
  a_law_expression : Addr
  d_law_expression : FuncData
  F_law_expression : DefAt K "_law_expression" s_law_expression a_law_expression d_law_expression
  g_law_expression : mg "_law_expression" = some (.ref a_law_expression)
  a_law_told_names : Addr
  d_law_told_names : FuncData
  F_law_told_names : DefAt K "_law_told_names" s_law_told_names a_law_told_names d_law_told_names
  g_law_told_names : mg "_law_told_names" = some (.ref a_law_told_names)
  a_law_words : Addr
  d_law_words : FuncData
  F_law_words : DefAt K "_law_words" s_law_words a_law_words d_law_words
  g_law_words : mg "_law_words" = some (.ref a_law_words)
  a_law_right : Addr
  d_law_right : FuncData
  F_law_right : DefAt K "_law_right" s_law_right a_law_right d_law_right
  g_law_right : mg "_law_right" = some (.ref a_law_right)
  a_law_wide_right : Addr
  d_law_wide_right : FuncData
  F_law_wide_right : DefAt K "_law_wide_right" s_law_wide_right a_law_wide_right d_law_wide_right
  g_law_wide_right : mg "_law_wide_right" = some (.ref a_law_wide_right)
  a_law : Addr
  d_law : FuncData
  F_law : DefAt K "law" s_law a_law d_law
  g_law : mg "law" = some (.ref a_law)
  z_all : mg "all" = none
  z_bool : mg "bool" = none
  z_dict : mg "dict" = none
  z_int : mg "int" = none
  z_isinstance : mg "isinstance" = none
  z_len : mg "len" = none
  z_list : mg "list" = none
  z_max : mg "max" = none
  z_min : mg "min" = none
  z_range : mg "range" = none
  z_repr : mg "repr" = none
  z_set : mg "set" = none
  z_sorted : mg "sorted" = none
  z_str : mg "str" = none
  z_sum : mg "sum" = none
  z_tuple : mg "tuple" = none
  z_zip : mg "zip" = none
  c_MOST_WIDTH : ∃ u, mg "MOST_WIDTH" = some u ∧ RelV (.int 64) u
  c_LETTERS : ∃ u, mg "LETTERS" = some u ∧ RelV (.str "abcdefghijklmnopqrstuvwxyz") u
  c_FIGURES : ∃ u, mg "FIGURES" = some u ∧ RelV (.str "0123456789") u
  c_MOST_LETTERS : ∃ u, mg "MOST_LETTERS" = some u ∧ RelV (.int 6) u
  c_MOST_FIGURES : ∃ u, mg "MOST_FIGURES" = some u ∧ RelV (.int 4) u
  a_NO_NAMES : Addr
  c_NO_NAMES : ∃ u, mg "NO_NAMES" = some u ∧ RelV (.ref a_NO_NAMES) u
  t_NO_NAMES : ∀ H, SqT K H a_NO_NAMES ((noNames : List Str).map V.str)
  a_EXPRESSION_PARTS : Addr
  c_EXPRESSION_PARTS : ∃ u, mg "EXPRESSION_PARTS" = some u ∧ RelV (.ref a_EXPRESSION_PARTS) u
  t_EXPRESSION_PARTS : KTabs K w a_EXPRESSION_PARTS exprT
  a_CLAIM_PARTS : Addr
  c_CLAIM_PARTS : ∃ u, mg "CLAIM_PARTS" = some u ∧ RelV (.ref a_CLAIM_PARTS) u
  t_CLAIM_PARTS : KTabs K w a_CLAIM_PARTS claimT
section
variable {w : World} {K : PySem.W.Frag} {mg : Str → Option Value}
theorem Tx.b_is_whole (T : Tx w K mg) : Binds K T.d_is_whole ["value"] [] := T.F_is_whole.bindsN fun _ _ _ _ _ _ us hl => match us, hl with | [_], _ => rfl
theorem Tx.b_is_count (T : Tx w K mg) : Binds K T.d_is_count ["value"] [] := T.F_is_count.bindsN fun _ _ _ _ _ _ us hl => match us, hl with | [_], _ => rfl
theorem Tx.b_is_count_to (T : Tx w K mg) : Binds K T.d_is_count_to ["value", "most"] [] := T.F_is_count_to.bindsN fun _ _ _ _ _ _ us hl => match us, hl with | [_, _], _ => rfl
theorem Tx.b_is_word_of (T : Tx w K mg) : Binds K T.d_is_word_of ["width", "value"] [] := T.F_is_word_of.bindsN fun _ _ _ _ _ _ us hl => match us, hl with | [_, _], _ => rfl
theorem Tx.b_check_width (T : Tx w K mg) : Binds K T.d_check_width ["width"] [] := T.F_check_width.bindsN fun _ _ _ _ _ _ us hl => match us, hl with | [_], _ => rfl
theorem Tx.b_check_width_to (T : Tx w K mg) : Binds K T.d_check_width_to ["width", "most"] [] := T.F_check_width_to.bindsN fun _ _ _ _ _ _ us hl => match us, hl with | [_, _], _ => rfl
theorem Tx.b_is_name (T : Tx w K mg) : Binds K T.d_is_name ["value"] [] := T.F_is_name.bindsN fun _ _ _ _ _ _ us hl => match us, hl with | [_], _ => rfl
theorem Tx.b_is_name_end (T : Tx w K mg) : Binds K T.d_is_name_end ["text"] [] := T.F_is_name_end.bindsN fun _ _ _ _ _ _ us hl => match us, hl with | [_], _ => rfl
theorem Tx.b_first_word (T : Tx w K mg) : Binds K T.d_first_word ["value"] [] := T.F_first_word.bindsN fun _ _ _ _ _ _ us hl => match us, hl with | [_], _ => rfl
theorem Tx.b_fits (T : Tx w K mg) : Binds K T.d_fits ["kind", "value"] [] := T.F_fits.bindsN fun _ _ _ _ _ _ us hl => match us, hl with | [_, _], _ => rfl
theorem Tx.b_has_parts (T : Tx w K mg) : Binds K T.d_has_parts ["kinds", "value"] [] := T.F_has_parts.bindsN fun _ _ _ _ _ _ us hl => match us, hl with | [_, _], _ => rfl
theorem Tx.b_is_expression (T : Tx w K mg) : Binds K T.d_is_expression ["value"] [] := T.F_is_expression.bindsN fun _ _ _ _ _ _ us hl => match us, hl with | [_], _ => rfl
theorem Tx.b_claim_parts (T : Tx w K mg) : Binds K T.d_claim_parts ["value"] [] := T.F_claim_parts.bindsN fun _ _ _ _ _ _ us hl => match us, hl with | [_], _ => rfl
theorem Tx.b_is_filling_of (T : Tx w K mg) : Binds K T.d_is_filling_of ["width", "names", "value"] [] := T.F_is_filling_of.bindsN fun _ _ _ _ _ _ us hl => match us, hl with | [_, _, _], _ => rfl
theorem Tx.b_is_filled (T : Tx w K mg) : Binds K T.d_is_filled ["width", "name", "value"] [] := T.F_is_filled.bindsN fun _ _ _ _ _ _ us hl => match us, hl with | [_, _, _], _ => rfl
theorem Tx.b_check_expression (T : Tx w K mg) : Binds K T.d_check_expression ["expression"] [] := T.F_check_expression.bindsN fun _ _ _ _ _ _ us hl => match us, hl with | [_], _ => rfl
theorem Tx.b_check_filling (T : Tx w K mg) : Binds K T.d_check_filling ["width", "names", "filling"] [] := T.F_check_filling.bindsN fun _ _ _ _ _ _ us hl => match us, hl with | [_, _, _], _ => rfl
theorem Tx.b_parts_of (T : Tx w K mg) : Binds K T.d_parts_of ["knot"] [] := T.F_parts_of.bindsN fun _ _ _ _ _ _ us hl => match us, hl with | [_], _ => rfl
theorem Tx.b_names_standing (T : Tx w K mg) : Binds K T.d_names_standing ["knot"] [] := T.F_names_standing.bindsN fun _ _ _ _ _ _ us hl => match us, hl with | [_], _ => rfl
theorem Tx.b_names_of_expression (T : Tx w K mg) : Binds K T.d_names_of_expression ["expression"] [] := T.F_names_of_expression.bindsN fun _ _ _ _ _ _ us hl => match us, hl with | [_], _ => rfl
theorem Tx.b_value (T : Tx w K mg) : Binds K T.d_value ["width", "expression", "filling"] [] := T.F_value.bindsN fun _ _ _ _ _ _ us hl => match us, hl with | [_, _, _], _ => rfl
theorem Tx.b_value_with (T : Tx w K mg) : Binds K T.d_value_with ["width", "expression", "words"] [] := T.F_value_with.bindsN fun _ _ _ _ _ _ us hl => match us, hl with | [_, _, _], _ => rfl
theorem Tx.b_plain_value (T : Tx w K mg) : Binds K T.d_plain_value ["width", "expression", "words"] [] := T.F_plain_value.bindsN fun _ _ _ _ _ _ us hl => match us, hl with | [_, _, _], _ => rfl
theorem Tx.b_law_hash (T : Tx w K mg) : Binds K T.d_law_hash ["_law_seed", "_law_index"] [] := T.F_law_hash.bindsN fun _ _ _ _ _ _ us hl => match us, hl with | [_, _], _ => rfl
theorem Tx.b_law_random (T : Tx w K mg) : Binds K T.d_law_random ["_law_generator_here", "_law_bound"] [] := T.F_law_random.bindsN fun _ _ _ _ _ _ us hl => match us, hl with | [_, _], _ => rfl
theorem Tx.b_law_cell (T : Tx w K mg) : Binds K T.d_law_cell ["_law_script", "_law_index"] [] := T.F_law_cell.bindsN fun _ _ _ _ _ _ us hl => match us, hl with | [_, _], _ => rfl
theorem Tx.b_law_generator (T : Tx w K mg) : Binds K T.d_law_generator ["_law_script", "_law_index"] [] := T.F_law_generator.bindsN fun _ _ _ _ _ _ us hl => match us, hl with | [_, _], _ => rfl
theorem Tx.b_law_power (T : Tx w K mg) : Binds K T.d_law_power ["_law_many"] [] := T.F_law_power.bindsN fun _ _ _ _ _ _ us hl => match us, hl with | [_], _ => rfl
theorem Tx.b_law_bit (T : Tx w K mg) : Binds K T.d_law_bit ["_law_word", "_law_place"] [] := T.F_law_bit.bindsN fun _ _ _ _ _ _ us hl => match us, hl with | [_, _], _ => rfl
theorem Tx.b_law_value (T : Tx w K mg) : Binds K T.d_law_value ["_law_width", "_law_told", "_law_words_here"] [] := T.F_law_value.bindsN fun _ _ _ _ _ _ us hl => match us, hl with | [_, _, _], _ => rfl
theorem Tx.b_law_expression (T : Tx w K mg) : Binds K T.d_law_expression ["_law_generator_here", "_law_names", "_law_deep"] [] := T.F_law_expression.bindsN fun _ _ _ _ _ _ us hl => match us, hl with | [_, _, _], _ => rfl
theorem Tx.b_law_told_names (T : Tx w K mg) : Binds K T.d_law_told_names ["_law_told"] [] := T.F_law_told_names.bindsN fun _ _ _ _ _ _ us hl => match us, hl with | [_], _ => rfl
theorem Tx.b_law_words (T : Tx w K mg) : Binds K T.d_law_words ["_law_filling"] [] := T.F_law_words.bindsN fun _ _ _ _ _ _ us hl => match us, hl with | [_], _ => rfl
theorem Tx.b_law_right (T : Tx w K mg) : Binds K T.d_law_right ["_law_generator_here"] [] := T.F_law_right.bindsN fun _ _ _ _ _ _ us hl => match us, hl with | [_], _ => rfl
theorem Tx.b_law_wide_right (T : Tx w K mg) : Binds K T.d_law_wide_right ["_law_generator_here"] [] := T.F_law_wide_right.bindsN fun _ _ _ _ _ _ us hl => match us, hl with | [_], _ => rfl
theorem Tx.b_law (T : Tx w K mg) : Binds K T.d_law ["_law_script"] [] := T.F_law.bindsN fun _ _ _ _ _ _ us hl => match us, hl with | [_], _ => rfl
theorem Tx.w_value_filling_expression_width (T : Tx w K mg) : KwB T.d_value ["width", "expression", "filling"] ["filling", "expression", "width"] (fun ws => match ws with | [x0, x1, x2] => [x2, x1, x0] | _ => []) (fun ws => match ws with | [x0, x1, x2] => [x2, x1, x0] | _ => []) := by
  obtain ⟨oc, od, dV, kV, doc, pm, an, cdv, ct, osl, e, _, _, hD, _⟩ := T.F_value.ex
  have ed : dV = .none := hD.elim And.right fun z => (z.1 rfl).elim
  subst ed
  refine ⟨fun s ws hl => ?_, fun {zs ws} hl r => ?_⟩
  · rw [e]
    match ws, hl with | [_, _, _], _ => exact .of_eq rfl
  · match zs, ws, r with | [_, _, _], [_, _, _], .cons r0 (.cons r1 (.cons r2 .nil)) => exact .cons r2 (.cons r1 (.cons r0 .nil))
end

/-! ### the law's own random numbers -/
section
variable {P : Program} {w : World} {K : PySem.W.Frag} {mg : Str → Option Value} {base : Heap}
/-- the seed is a rest by 2147483647, the index not far -/
def spHash : Sp := fun vs H Q _ => ∃ a b : Int, vs = [.int a, .int b] ∧ 0 ≤ a ∧ a < 2147483648 ∧ 0 ≤ b ∧ b < 4294967296 ∧ ∀ r : Int, 0 ≤ r → r < 2147483647 → Q (.int r) H
theorem nlt {i : Int} {n : Nat} (h0 : 0 ≤ i) (h : i < 2 ^ n) : i.natAbs < 2 ^ n := by
  have e : ((2 ^ n : Nat) : Int) = (2 : Int) ^ n := by rw [Int.natCast_pow]; rfl
  omega
theorem ok_law_hash (T : Tx w K mg) : FnG P w K mg base CX0 1 T.a_law_hash T.d_law_hash ["_law_seed", "_law_index"] spHash := by
  refine bodyG0 T.F_law_hash sc_law_hash (fun vs H Q E h => ?_) (fun cdv A outer s H vs Q E gd hr h => ?_)
  · obtain ⟨a, b, rfl, _⟩ := h; rfl
  · obtain ⟨a, b, rfl, a0, a1, b0, b1, q⟩ := h
    refine ⟨_, (pss_cons (ps_set (i := 2) sc_law_hash.nd rfl (Or.inl rfl) (pe_op op_mod (pe_callTy call_int1 (by rfl) T.z_int (by decide +kernel) (pa_cons (pe_op op_add (pe_op op_add (pe_op op_add (pe_op op_mulX (pv 0) pe_int) (pe_op op_mulX (pe_op op_mulX pe_int (pv 1)) (pv 1))) (pe_op op_mulX pe_int (pv 1))) pe_int) pa_nil)) pe_int))
      (pss_cons (ps_set (i := 2) sc_law_hash.nd rfl (Or.inl rfl) (pe_op op_mod (pe_callTy call_int1 (by rfl) T.z_int (by decide +kernel) (pa_cons (pe_op op_add (pe_op op_add (pe_op op_mulX (pv 2) (pv 2)) (pe_op op_mulX pe_int (pv 1))) pe_int) pa_nil)) pe_int))
      (pss_one (ps_ret (pe_op op_mod (pe_callTy call_int1 (by rfl) T.z_int (by decide +kernel) (pa_cons (pe_op op_mulX (pv 2) pe_int) pa_nil)) pe_int))))), ?_⟩
    have ha : a.natAbs < 2 ^ 31 := nlt a0 a1
    have hb : b.natAbs < 2 ^ 32 := nlt b0 b1
    refine ⟨_, rfl, _, _, rfl, rfl, mulx_ok ha (b := 31) (by decide) (by decide), _, rfl, _, _, rfl, rfl, mulx_ok (a := 31) (by decide) hb (by decide), _, rfl, _, _, rfl, rfl, mulx_ok (wide_lt (a := 31) (by decide) hb) hb (by decide), _, _, rfl, rfl, _, rfl, _, _, rfl, rfl, mulx_ok (a := 31) (by decide) hb (by decide), _, _, rfl, rfl, _, _, rfl, rfl, .inl ⟨_, rfl, _, _, rfl, rfl, (by decide : (0 : Int) < 2147483629), ?_⟩⟩
    dsimp only
    generalize (a * 1140671 + 27644437 * b * b + 131 * b + 19) = x1
    have x0 := Int.emod_nonneg x1 (by decide : (2147483629 : Int) ≠ 0)
    have x2 := Int.emod_lt_of_pos x1 (by decide : (0 : Int) < 2147483629)
    generalize x1 % 2147483629 = x at x0 x2
    have hx : x.natAbs < 2 ^ 31 := nlt x0 (by omega)
    refine ⟨_, rfl, _, rfl, _, _, rfl, rfl, mulx_ok hx hx (by decide), _, rfl, _, _, rfl, rfl, mulx_ok (a := 31) (by decide) hb (by decide), _, _, rfl, rfl, _, _, rfl, rfl, .inl ⟨_, rfl, _, _, rfl, rfl, (by decide : (0 : Int) < 2147483587), ?_⟩⟩
    dsimp only
    generalize (x * x + 62089 * b + 32416187) = y1
    have y0 := Int.emod_nonneg y1 (by decide : (2147483587 : Int) ≠ 0)
    have y2 := Int.emod_lt_of_pos y1 (by decide : (0 : Int) < 2147483587)
    generalize y1 % 2147483587 = y at y0 y2
    have hy : y.natAbs < 2 ^ 31 := nlt y0 (by omega)
    refine ⟨_, rfl, _, _, rfl, rfl, mulx_ok hy (b := 31) (by decide) (by decide), .inl ⟨_, rfl, _, _, rfl, rfl, (by decide : (0 : Int) < 2147483647), ?_⟩⟩
    exact q _ (Int.emod_nonneg _ (by decide)) (Int.emod_lt_of_pos _ (by decide))

/-- the generator: what is left of a great seed, the seed's rest, the index -/
structure GenOk (s t c m : Int) : Prop where
  s0 : 0 ≤ s
  s1 : s < 2 ^ 2000
  t0 : 0 ≤ t
  t1 : t < 2147483648
  c0 : 0 ≤ c
  c1 : c ≤ m
def genL (s t c : Int) : HO := .lst [.int s, .int t, .int c]
/-- a draw below a bound: the generator's list at a is another one; the index grows by a hundred at most -/
def spRandom : Sp := fun vs H Q _ => ∃ (a : Addr) (b s t c m : Int), vs = [.ref a, .int b] ∧ H a = some (genL s t c) ∧ GenOk s t c m ∧ m + 100 < 4294967296 ∧ 0 < b ∧ b < 2 ^ 2000 ∧
  ∀ (r s' c' : Int), 0 ≤ r → r < b → GenOk s' t c' (m + 100) → Q (.int r) (upd H a (genL s' t c'))
theorem bits_le_of {b : Int} {n : Nat} (h0 : 0 ≤ b) (h : b < 2 ^ n) : Builtin.Int.intBits b ≤ n := PyProof.Rows.intBits_le (nlt h0 h)
theorem ok_law_random (T : Tx w K mg) : FnG P w K mg base CX0 2 T.a_law_random T.d_law_random ["_law_generator_here", "_law_bound"] spRandom := by
  have G_law_hash := ok_law_hash (P := P) (w := w) (base := base) T
  refine bodyG0 T.F_law_random sc_law_random (fun vs H Q E h => ?_) (fun cdv A outer s H vs Q E gd hr h => ?_)
  · obtain ⟨a, b, s, t, c, m, rfl, _⟩ := h; rfl
  · obtain ⟨a, b, s, t, c, m, rfl, hg, ok, hm, b0, b1, q⟩ := h
    obtain ⟨s0, s1, t0, t1, c0, c1⟩ := ok
    have sq : SqL K H a [.int s, .int t, .int c] := .inl (.inl hg)
    refine ⟨_, (pss_cons (ps_if (pt_cmpR op_gt (pe_ix (ix_listK (K := K) rfl) (pv 0) pe_int (fun _ _ => rfl)) pe_int (nomark _)) (pss_cons (ps_set (i := 2) sc_law_random.nd rfl (Or.inl rfl) (pe_op op_mod (pe_callTy call_int1 (by rfl) T.z_int (by decide +kernel) (pa_cons (pe_ix (ix_listK (K := K) rfl) (pv 0) pe_int (fun _ _ => rfl)) pa_nil)) (pv 1)))
      (pss_cons (ps_asg (pe_op op_fdivW (pe_ix (ix_listK (K := K) rfl) (pv 0) pe_int (fun _ _ => rfl)) (pv 1)) (pg_sub (pv 0) pe_int set_list))
      (pss_one (ps_ret (pv 2))))) pss_nil)
      (pss_cons (ps_set (i := 2) sc_law_random.nd rfl (Or.inl rfl) pe_int)
      (pss_cons (ps_for PassesOwn.never rfl (pi_range1 (by rfl) T.z_range (pa_cons (pe_op op_add pe_int (pe_op op_fdivW (pe_bits (pv 1)) pe_int)) pa_nil)) (pg_name (i := 3) sc_law_random.nd rfl (Or.inl rfl)) (pss_cons (ps_asg (pe_op op_add (pe_ix (ix_listK (K := K) rfl) (pv 0) pe_int (fun _ _ => rfl)) pe_int) (pg_sub (pv 0) pe_int set_list))
      (pss_one (ps_set (i := 2) sc_law_random.nd rfl (Or.inl rfl) (pe_op op_add (pe_op op_mulX (pv 2) pe_int) (pe_g G_law_hash gd (hr.mono (by decide)) (by rfl) T.g_law_hash T.F_law_hash.kp T.b_law_hash .nil pass0 (pa_cons (pe_ix (ix_listK (K := K) rfl) (pv 0) pe_int (fun _ _ => rfl)) (pa_cons (pe_ix (ix_listK (K := K) rfl) (pv 0) pe_int (fun _ _ => rfl)) pa_nil))))))))
      (pss_one (ps_ret (pe_op op_mod (pe_callTy call_int1 (by rfl) T.z_int (by decide +kernel) (pa_cons (pv 2) pa_nil)) (pv 1))))))), ?_⟩
    refine ⟨_, rfl, _, _, _, _, rfl, rfl, sq, atI_nat (j := 0) rfl, _, _, rfl, rfl, _, rfl, ?_⟩
    by_cases hs : 0 < s
    · rw [decide_eq_true hs]
      refine iteT ⟨_, rfl, _, _, _, _, rfl, rfl, sq, atI_nat (j := 0) rfl, .inl ⟨_, rfl, _, rfl, _, _, rfl, rfl, b0, ?_⟩⟩
      refine ⟨_, rfl, _, _, _, _, rfl, rfl, sq, atI_nat (j := 0) rfl, _, rfl, _, _, rfl, rfl, wide_div b0 (nlt (Int.le_of_lt b0) b1) (by decide) (by decide), ?_⟩
      refine ⟨_, rfl, a, _, _, 0, rfl, rfl, hg, rfl, ?_⟩
      refine ⟨_, rfl, ?_⟩
      have d0 := Int.ediv_nonneg s0 (Int.le_of_lt b0)
      have d1 : s / b ≤ s := Int.ediv_le_self b s0
      exact q _ _ _ (Int.emod_nonneg _ (by omega)) (Int.emod_lt_of_pos _ b0) ⟨d0, by omega, t0, t1, c0, by omega⟩
    · rw [decide_eq_false hs]
      refine iteF ?_
      have hbits := bits_le_of (Int.le_of_lt b0) b1
      have hq : ((1 : Int) + (Builtin.Int.intBits b : Nat) / 30) = ((1 + Builtin.Int.intBits b / 30 : Nat) : Int) := by rw [Int.natCast_add, Int.natCast_ediv]; rfl
      refine ⟨_, rfl, b, rfl, _, _, rfl, rfl, wide_div (b := 5) (by decide) (by decide) (by decide) (by decide), _, _, rfl, rfl, ((1 + Builtin.Int.intBits b / 30 : Nat) : Int), by rw [← hq], by omega, by omega, ?_⟩
      refine for_range (n := 1 + Builtin.Int.intBits b / 30) (fun i σ H' => ∃ (d : Int) (y : Option V), σ = [some (.ref a), some (.int b), some (.int d), y] ∧ H' = upd H a (genL s t (c + i)) ∧ 0 ≤ d ∧ d < 2 ^ (31 * i)) ⟨0, none, rfl, ?_, by decide, by decide⟩ ?_ ?_
      · rw [show c + ((0 : Nat) : Int) = c by omega]
        funext x
        unfold upd
        by_cases hx : x = a
        · rw [if_pos hx, hx, hg]
        · rw [if_neg hx]
      · rintro i σ H' hi ⟨d, y, rfl, rfl, d0, d1⟩
        have up : (upd H a (genL s t (c + i))) a = some (genL s t (c + i)) := upd_same
        have sq1 : SqL K (upd H a (genL s t (c + i))) a [.int s, .int t, .int (c + i)] := .inl (.inl up)
        refine ⟨_, rfl, _, _, _, _, rfl, rfl, sq1, atI_nat (j := 2) rfl, _, _, rfl, rfl, _, rfl, a, _, _, 2, rfl, rfl, up, rfl, ?_⟩
        have up2 : (upd (upd H a (genL s t (c + i))) a (.lst ([V.int s, .int t, .int (c + i)].set 2 (.int (c + i + 1))))) a = some (genL s t (c + i + 1)) := upd_same
        have sq2 : SqL K (upd (upd H a (genL s t (c + i))) a (.lst ([V.int s, .int t, .int (c + i)].set 2 (.int (c + i + 1))))) a [.int s, .int t, .int (c + i + 1)] := .inl (.inl up2)
        refine ⟨_, rfl, _, _, rfl, rfl, mulx_ok (nlt d0 d1) (b := 31) (by decide) (by omega), ?_⟩
        refine ⟨_, rfl, _, _, _, _, rfl, rfl, sq2, atI_nat (j := 1) rfl, _, rfl, _, _, _, _, rfl, rfl, sq2, atI_nat (j := 2) rfl, _, _, rfl, t0, t1, by omega, by omega, fun r r0 r1 => ⟨_, _, rfl, rfl, ?_⟩⟩
        refine ⟨d * 2147483587 + r, _, rfl, ?_, by omega, ?_⟩
        · rw [show c + ((i + 1 : Nat) : Int) = c + i + 1 by omega]
          exact upd_upd
        · have e : (2 : Int) ^ (31 * (i + 1)) = 2 ^ (31 * i) * 2147483648 := by
            rw [Nat.mul_add, Int.pow_add]; rfl
          have p : (1 : Int) ≤ 2 ^ (31 * i) := Int.pow_pos (by decide)
          rw [e]
          generalize (2 : Int) ^ (31 * i) = B at d1 p
          omega
      · rintro σ H' ⟨d, y, rfl, rfl, d0, d1⟩
        refine ⟨_, rfl, .inl ⟨_, rfl, _, rfl, _, _, rfl, rfl, b0, ?_⟩⟩
        exact q _ _ _ (Int.emod_nonneg _ (by omega)) (Int.emod_lt_of_pos _ b0) ⟨s0, s1, t0, t1, by omega, by omega⟩

theorem same_new {H : Hp} {p : Addr} {o : HO} (h : H p = none) : Same H (upd H p o) := fun b x e => by
  rw [upd_ne (ne_of_none e h)]
  exact e
theorem cut_first {α : Type} (f : α → V) (xs : List α) : cutV (xs.map f) none (some 1) = (xs.take 1).map f := by
  unfold cutV
  rw [HT.sIx_none, show HT.sIx (xs.map f).length (xs.map f).length (some 1) = min 1 (xs.map f).length from HT.sIx_nat _ _ 1]
  cases xs with
  | nil => rfl
  | cons x r =>
    rw [show min 1 ((x :: r).map f).length = 1 by rw [List.length_map, List.length_cons]; omega]
    rfl
def spCell (K : PySem.W.Frag) : Sp := fun vs H Q _ => ∃ (a : Addr) (ns : List Int) (j : Nat), vs = [.ref a, .int j] ∧ SqL K H a (ns.map V.int) ∧ ∀ (r : Int) (H' : Hp), Same H H' → Q (.int r) H'
theorem ok_law_cell (T : Tx w K mg) : FnG P w K mg base CX0 1 T.a_law_cell T.d_law_cell ["_law_script", "_law_index"] (spCell K) := by
  refine bodyG0 T.F_law_cell sc_law_cell (fun vs H Q E h => ?_) (fun cdv A outer s H vs Q E gd hr h => ?_)
  · obtain ⟨a, ns, j, rfl, _⟩ := h; rfl
  · obtain ⟨a, ns, j, rfl, hS, q⟩ := h
    refine ⟨_, (pss_cons (ps_if (pt_cmpR op_lt (pv 1) (pe_callB (call_lenK (K := K) rfl) (by rfl) T.z_len (by decide +kernel) (pa_cons (pv 0) pa_nil)) (nomark _)) (pss_one (ps_ret (pe_ix (ix_listK (K := K) rfl) (pv 0) (pv 1) (fun _ _ => rfl)))) pss_nil)
      (pss_one (ps_ret (pe_op op_mod (pe_callB (cr_sum rfl) (by rfl) T.z_sum (by decide +kernel) (pa_cons (pe_slice (sl_listK (K := K) rfl) (pv 0) po_none (po_some pe_int)) pa_nil)) pe_int)))), ?_⟩
    refine ⟨_, rfl, _, rfl, a, _, rfl, .inl hS, _, _, rfl, rfl, _, rfl, ?_⟩
    by_cases hj : ((j : Nat) : Int) < ((ns.map V.int).length : Nat)
    · rw [decide_eq_true hj]
      have hj2 : j < ns.length := by rw [List.length_map] at hj; omega
      refine iteT ⟨_, rfl, _, rfl, _, _, _, _, rfl, rfl, hS, atI_nat (j := j) (v := .int (ns[j])) ?_, q _ _ (Same.refl H)⟩
      rw [List.getElem?_map, List.getElem?_eq_getElem hj2]
      rfl
    · rw [decide_eq_false hj]
      refine iteF ⟨_, rfl, 1, rfl, a, _, rfl, hS, fun p hp => ?_⟩
      refine ⟨p, ns.take 1, rfl, .inl (.inl ?_), _, _, rfl, rfl, (by decide : (0 : Int) < 1000003), q _ _ (same_new hp)⟩
      rw [upd_same, cut_first]
def spGenerator (K : PySem.W.Frag) : Sp := fun vs H Q _ => ∃ (a : Addr) (ns : List Int) (j : Nat), vs = [.ref a, .int j] ∧ j ≤ 1000 ∧ SqL K H a (ns.map V.int) ∧
  ∀ (g : Addr) (H' : Hp) (s t c : Int), Same H H' → H g = none → H' g = some (genL s t c) → GenOk s t c (1000 * j) → Q (.ref g) H'
theorem ok_law_generator (T : Tx w K mg) : FnG P w K mg base CX0 2 T.a_law_generator T.d_law_generator ["_law_script", "_law_index"] (spGenerator K) := by
  have G_law_cell := ok_law_cell (P := P) (w := w) (base := base) T
  refine bodyG0 T.F_law_generator sc_law_generator (fun vs H Q E h => ?_) (fun cdv A outer s H vs Q E gd hr h => ?_)
  · obtain ⟨a, ns, j, rfl, _⟩ := h; rfl
  · obtain ⟨a, ns, j, rfl, hj, hS, q⟩ := h
    refine ⟨_, (pss_cons (ps_set (i := 2) sc_law_generator.nd rfl (Or.inl rfl) (pe_g G_law_cell gd (hr.mono (by decide)) (by rfl) T.g_law_cell T.F_law_cell.kp T.b_law_cell .nil pass0 (pa_cons (pv 0) (pa_cons (pv 1) pa_nil))))
      (pss_one (ps_ret (pe_lst (pa_cons (pe_op op_mod (pe_callTy call_int1 (by rfl) T.z_int (by decide +kernel) (pa_cons (pe_callB (call_max2 rfl) (by rfl) T.z_max (by decide +kernel) (pa_cons (pe_op op_sub (pv 2) (pe_op op_powW pe_int pe_int)) (pa_cons pe_int pa_nil))) pa_nil)) (pe_op op_powW (pe_op op_powW pe_int pe_int) pe_int)) (pa_cons (pe_op op_mod (pe_callTy call_int1 (by rfl) T.z_int (by decide +kernel) (pa_cons (pv 2) pa_nil)) pe_int) (pa_cons (pe_op op_mulX pe_int (pv 1)) pa_nil))))))), ?_⟩
    refine ⟨_, rfl, _, rfl, a, ns, j, rfl, hS, fun r H' sm => ?_⟩
    have e10 : ((10 : Int) ^ 60).natAbs < 2 ^ 200 := by decide +kernel
    refine ⟨_, rfl, _, _, rfl, rfl, powW_ok (n := 4) (j := 18) (by decide) (by decide), _, _, rfl, rfl, _, _, rfl, .inl ⟨_, rfl, ?_⟩⟩
    refine ⟨_, _, rfl, rfl, powW_ok (n := 4) (j := 60) (by decide) (by decide), _, _, rfl, rfl, powW_ok (n := 200) (j := 10) e10 (by decide), _, _, rfl, rfl, (by decide +kernel : (0 : Int) < (10 ^ 60) ^ 10), ?_⟩
    refine ⟨_, rfl, .inl ⟨_, rfl, _, _, rfl, rfl, (by decide : (0 : Int) < 2147483647), ?_⟩⟩
    refine ⟨_, rfl, _, _, rfl, rfl, mulx_ok (a := 10) (b := 10) (by decide) (by omega) (by decide), by show 3 ≤ sizeLine; rw [sizeLine_eq]; decide, fun g hg => ?_⟩
    have big : ((10 : Int) ^ 60) ^ 10 < 2 ^ 2000 := by decide +kernel
    have m1 := Int.emod_lt_of_pos (if r - 10 ^ 18 < 0 then 0 else r - 10 ^ 18) (by decide +kernel : (0 : Int) < (10 ^ 60) ^ 10)
    refine q g _ _ _ _ (sm.trans (same_new hg)) (sm.free hg) upd_same ⟨Int.emod_nonneg _ (by decide +kernel), Int.lt_trans (Int.emod_lt_of_pos _ (by decide +kernel)) big, Int.emod_nonneg _ (by decide), Int.lt_trans (Int.emod_lt_of_pos _ (by decide)) (by decide), by omega, by omega⟩
end

end K07

set_option Elab.async false
set_option linter.all false
set_option maxRecDepth 100000
set_option maxHeartbeats 4000000
namespace K07
open PySem PySem.Spec PyProof.Rows L2 Hw

section
variable {P : Program} {w : World} {K : PySem.W.Frag} {mg : Str → Option Value} {base : Heap}
theorem ok_is_whole (T : Tx w K mg) : FnG P w K mg base CX0 1 T.a_is_whole T.d_is_whole ["value"] (spF (p1 fun _ => True) (f1 fun d => .bool (wholeB d))) := by
  refine bodyF T.F_is_whole sc_is_whole p1_len fun cdv A outer s H E gd hr => ⟨_, (pss_one (ps_ret (pe_and (pe_callB call_isD (by rfl) T.z_isinstance (by decide +kernel) (pa_cons (pv 0) (pa_cons (pe_bltn (v := .ty "int") (by rfl) T.z_int (by decide +kernel) rfl) pa_nil))) (pe_one (pe_not (pe_callB call_isD (by rfl) T.z_isinstance (by decide +kernel) (pa_cons (pv 0) (pa_cons (pe_bltn (v := .ty "bool") (by rfl) T.z_bool (by decide +kernel) rfl) pa_nil)))))))), ?_⟩
  rintro _ hd ⟨d, rfl, _⟩
  exact SX.ret (EX.andV (EX.isi (EX.var rfl) (kit_int d)) fun _ => EX.notV (EX.isi (EX.var rfl) (kit_bool d))) ⟨rfl, rfl, rfl⟩
theorem count_whole {d : PyData} (h : wholeB d = true) : ∃ i : Int, d = .int i := by cases d <;> first | exact ⟨_, rfl⟩ | cases h
theorem ok_is_count (T : Tx w K mg) : FnG P w K mg base CX0 2 T.a_is_count T.d_is_count ["value"] (spF (p1 fun _ => True) (f1 fun d => .bool (countB d))) := by
  have G_is_whole := ok_is_whole (P := P) (w := w) (base := base) T
  refine bodyF T.F_is_count sc_is_count p1_len fun cdv A outer s H E gd hr => ⟨_, (pss_one (ps_ret (pe_and (pe_g G_is_whole gd (hr.mono (by decide)) (by rfl) T.g_is_whole T.F_is_whole.kp T.b_is_whole .nil pass0 (pa_cons (pv 0) pa_nil)) (pe_one (pe_cmpR op_ge (pv 0) pe_int (nomark _)))))), ?_⟩
  rintro _ hd ⟨d, rfl, _⟩
  refine SX.ret (EX.andV (b := wholeB d) (c := countB d) (EX.call (ds := [d]) (EAX.cons (EX.var rfl) EAX.nil) ⟨d, rfl, trivial⟩ rfl) fun h => ?_) ⟨?_, rfl, rfl⟩
  · obtain ⟨i, rfl⟩ := count_whole h
    exact EX.b0 (EX.var rfl) (EX.int 0)
  · show Sl.dat (.bool (wholeB d && countB d)) = .dat (.bool (countB d))
    cases d <;> rfl
theorem ok_first_word (T : Tx w K mg) : FnG P w K mg base CX0 1 T.a_first_word T.d_first_word ["value"] (spF (p1 fun _ => True) (f1 fun d => .str (firstW d))) := by
  refine bodyF T.F_first_word sc_first_word p1_len fun cdv A outer s H E gd hr => ⟨_, (pss_cons (ps_if (PW.pt (pw_and (pt_val (pe_callB call_isD (by rfl) T.z_isinstance (by decide +kernel) (pa_cons (pv 0) (pa_cons (pe_bltn (v := .ty "tuple") (by rfl) T.z_tuple (by decide +kernel) rfl) pa_nil)))) (pw_and (pt_cmpR op_gt (pe_callB (call_lenK (K := K) rfl) (by rfl) T.z_len (by decide +kernel) (pa_cons (pv 0) pa_nil)) pe_int (nomark _)) (pw_and1 (pt_val (pe_callB call_isD (by rfl) T.z_isinstance (by decide +kernel) (pa_cons (pe_ix (ix_seqK (K := K) rfl) (pv 0) pe_int (fun _ _ => rfl)) (pa_cons (pe_bltn (v := .ty "str") (by rfl) T.z_str (by decide +kernel) rfl) pa_nil)))))))) (pss_one (ps_ret (pe_ix (ix_seqK (K := K) rfl) (pv 0) pe_int (fun _ _ => rfl)))) pss_nil)
      (pss_one (ps_ret pe_str))), ?_⟩
  rintro _ hd ⟨d, rfl, _⟩
  refine SX.seq (SX.ifS (b := isTuple d && (match d with | .tuple (x :: _) => isStr x | _ => false)) (TX.and (TX.tB (EX.isi (EX.var rfl) (kit_tuple d))) fun ht => ?_) (fun h => ?_) fun h => ?_)
  · cases d <;> first | cases ht | skip
    rename_i ds
    cases ds with
    | nil => exact TX.and (b := false) (c := false) (TX.test ((EX.b0 (EX.lenT (EX.var rfl)) (EX.int 0)).dat rfl)) (fun z => nomatch z)
    | cons x r =>
      refine TX.and (b := true) (TX.test ((EX.b0 (EX.lenT (EX.var rfl)) (EX.int 0)).dat ?_)) fun _ => TX.tB (EX.isi (EX.ixQ (d := x) (EX.var rfl) (EX.int 0) (.inr rfl) (atI_nat (j := 0) rfl)) (kit_str x))
      show PyData.bool (decide ((0 : Int) < ((r.length + 1 : Nat) : Int))) = .bool true
      rw [decide_eq_true (by omega)]
  · cases d <;> first | cases h | skip
    rename_i ds
    cases ds with
    | nil => cases h
    | cons x r =>
      cases x <;> first | cases h | skip
      rename_i z
      exact SX.ret (EX.ixQ (d := .str z) (EX.var rfl) (EX.int 0) (.inr rfl) (atI_nat (j := 0) rfl)) ⟨rfl, rfl, rfl⟩
  · refine SX.next (SX.ret (EX.str _) ⟨?_, rfl, rfl⟩)
    show Sl.dat (.str "") = .dat (.str (firstW d))
    cases d <;> first | rfl | skip
    rename_i ds
    cases ds with
    | nil => rfl
    | cons x r => cases x <;> first | rfl | cases h
/-! names -/
theorem str_nil {z : Str} : (z = ("" : Str)) ↔ z.cps.toList = [] := by
  constructor
  · rintro rfl; rfl
  · intro h
    obtain ⟨⟨l⟩⟩ := z
    cases (show l = [] from h)
    rfl
theorem str_of {z : Str} {l : List Nat} (h : z.cps.toList = l) : z = ⟨l.toArray⟩ := by
  obtain ⟨⟨m⟩⟩ := z
  cases (show m = l from h)
  rfl
theorem one_line {z : Str} (h : z.length ≤ 1000000) : z.length ≤ sizeLine := by rw [sizeLine_eq]; omega
theorem len_list (z : Str) : z.cps.toList.length = z.length := Array.length_toList
theorem ok_is_name_end (T : Tx w K mg) : FnG P w K mg base CX0 1 T.a_is_name_end T.d_is_name_end ["text"] (spF (p1 fun d => ∃ z : Str, d = .str z ∧ z.length ≤ 1000000) (f1 fun d => .bool (match d with | .str z => endB z.cps.toList | _ => false))) := by
  refine bodyF T.F_is_name_end sc_is_name_end p1_len fun cdv A outer s H E gd hr => ⟨_, (pss_cons (ps_if (pt_cmpR op_eq (pv 0) pe_str (nomark _)) (pss_one (ps_ret pe_bl)) pss_nil)
      (pss_cons (ps_if (PW.pt (pw_or (pt_cmpR op_gt (pe_callB call_len_str (by rfl) T.z_len (by decide +kernel) (pa_cons (pv 0) pa_nil)) (C8.pe_gc (by rfl) T.c_MOST_FIGURES) (nomark _)) (pw_or1 (pt_not (pt_val (pe_callB (cr_all rfl) (by rfl) T.z_all (by decide +kernel) (pa_cons (pe_lc (own := [("sign", 1)]) (g := gName 1) (tt := tYes) rfl sc_is_name_end.nd (pi_str (pv 0)) (blkOk_by (N := ["text", "sign"]) (sc := defScope s_is_name_end) (by decide +kernel)) (fun _ _ _ _ _ => (pg_name (i := 1) sc_is_name_end.nd rfl (Or.inl rfl))) (fun _ _ _ _ _ => pts_nil) (fun _ _ _ _ _ => (pe_cmpR op_in_sign (pv 1) (C8.pe_gc (by rfl) T.c_FIGURES) (by rfl)))) pa_nil))))))) (pss_one (ps_ret pe_bl)) pss_nil)
      (pss_one (ps_ret (pe_or (pe_cmpR op_eq (pv 0) pe_str (nomark _)) (pe_one (pe_cmpR op_ne (pe_ix ix_str (pv 0) pe_int (fun _ _ => rfl)) pe_str (nomark _)))))))), ?_⟩
  rintro _ hd ⟨_, rfl, z, rfl, hz⟩
  have hl := len_list z
  refine SX.seq (SX.ifS (TX.test (EX.eqS (EX.var rfl) (EX.str _))) (fun h => ?_) fun h => ?_)
  · have e := str_nil.mp (of_decide_eq_true h)
    refine SX.ret (EX.bl true) ⟨?_, rfl, rfl⟩
    show Sl.dat (.bool true) = .dat (.bool (endB z.cps.toList))
    rw [e]; rfl
  · have ne : z.cps.toList ≠ [] := fun e => of_decide_eq_false h (str_nil.mpr e)
    have hE : endB z.cps.toList = (decide (z.cps.toList.length ≤ 4) && z.cps.toList.all (fun c => decide (c ∈ figuresC)) && (decide (z.cps.toList = [48]) || decide (z.cps.toList.head? ≠ some 48))) := by
      unfold endB
      cases e : z.cps.toList with
      | nil => exact absurd e ne
      | cons c r => rfl
    refine SX.next (SX.seq (SX.ifS (b := decide (4 < z.cps.toList.length) || !z.cps.toList.all (fun c => decide (c ∈ figuresC))) (TX.or (TX.test ((EX.b0 (EX.lenS (EX.var rfl) (one_line hz)) (EX.int 4)).dat ?_)) fun _ => TX.not (TX.tB ((EX.all (bs := z.cps.toList.map fun c => decide (c ∈ figuresC)) ((EX.lcA (xs := z.cps.toList) (f := fun c => PyData.bool (decide (c ∈ figuresC))) (IT.str (EX.var rfl)) TgOk.name (by rw [hl]; exact hz) fun c hc D ds => ?_).dat ?_)).dat ?_))) (fun h2 => ?_) fun h2 => ?_))
    · show PyData.bool (decide ((4 : Int) < ((z.length : Nat) : Int))) = _
      rw [hl]
      congr 1
      exact decide_eq_decide.mpr (by omega)
    · exact GX.name ⟨⟨rfl, rfl, rfl, rfl⟩, EX.inS (EX.var rfl) (EX.str _)⟩
    · rw [List.map_map]; rfl
    · rw [List.all_map]; rfl
    · refine SX.ret (EX.bl false) ⟨?_, rfl, rfl⟩
      show Sl.dat (.bool false) = .dat (.bool (endB z.cps.toList))
      rw [hE]
      congr 2
      by_cases h4 : z.cps.toList.length ≤ 4
      · rw [decide_eq_false (by omega), Bool.false_or] at h2
        have : z.cps.toList.all (fun c => decide (c ∈ figuresC)) = false := by cases q : z.cps.toList.all (fun c => decide (c ∈ figuresC)) <;> rw [q] at h2 <;> first | rfl | cases h2
        rw [this, Bool.and_false, Bool.false_and]
      · rw [decide_eq_false h4, Bool.false_and, Bool.false_and]
    · have h3 : z.cps.toList.length ≤ 4 ∧ z.cps.toList.all (fun c => decide (c ∈ figuresC)) = true := by
        rw [Bool.or_eq_false_iff] at h2
        have := of_decide_eq_false h2.1
        refine ⟨by omega, ?_⟩
        cases q : z.cps.toList.all (fun c => decide (c ∈ figuresC)) <;> rw [q] at h2 <;> first | rfl | exact absurd h2.2 (by decide)
      obtain ⟨c, r, e⟩ : ∃ c r, z.cps.toList = c :: r := by
        cases e : z.cps.toList with
        | nil => exact absurd e ne
        | cons c r => exact ⟨c, r, rfl⟩
      refine SX.next (SX.ret (EX.orV (EX.eqS (EX.var rfl) (EX.str _)) fun _ => EX.neS (EX.ixS (n := c) (EX.var rfl) (EX.int 0) (one_line hz) (atI_nat (j := 0) (by rw [e]; rfl))) (EX.str _)) ⟨?_, rfl, rfl⟩)
      show Sl.dat (.bool (decide (z = ("0" : Str)) || !decide ((⟨#[c]⟩ : Str) = ("0" : Str)))) = .dat (.bool (endB z.cps.toList))
      rw [hE, decide_eq_true h3.1, h3.2]
      congr 2
      rw [Bool.true_and, Bool.true_and]
      congr 1
      · refine decide_eq_decide.mpr ⟨fun h => by rw [h]; rfl, fun h => ?_⟩
        rw [str_of h]; rfl
      · rw [← decide_not]
        refine decide_eq_decide.mpr ⟨fun h h2 => h ?_, fun h h2 => h ?_⟩
        · rw [e] at h2
          cases (Option.some.inj h2 : c = 48)
          rfl
        · rw [e]
          have : (#[c] : Array Nat) = #[48] := congrArg Str.cps h2
          have := congrArg Array.toList this
          injection this with h3
          rw [h3]; rfl
theorem head_step {l : List Nat} {k : Nat} (hk : k ≤ headN l) : (∀ c, l[k]? = some c → decide (c ∈ lettersC) = true → k + 1 ≤ headN l) ∧ ((∀ c, l[k]? = some c → decide (c ∈ lettersC) = false) → headN l = k) := by
  unfold headN at *
  induction l generalizing k with
  | nil => exact ⟨fun c h => by simp at h, fun _ => by simp at hk; rw [hk]; rfl⟩
  | cons x r ih =>
    cases k with
    | zero =>
      refine ⟨fun c h h2 => ?_, fun h => ?_⟩
      · cases h
        rw [List.takeWhile_cons, h2]
        simp
      · rw [List.takeWhile_cons, h x rfl]
        rfl
    | succ k =>
      rw [List.takeWhile_cons] at hk ⊢
      cases q : decide (x ∈ lettersC) with
      | false => rw [q] at hk; simp at hk
      | true =>
        rw [q] at hk
        simp only [if_true, List.length_cons] at hk ⊢
        obtain ⟨a, b⟩ := ih (k := k) (by omega)
        exact ⟨fun c h h2 => by have := a c h h2; omega, fun h => by rw [b fun c hc => h c hc]⟩
theorem cut_from {z : Str} {k : Nat} (h : k ≤ z.length) : cutS z (some (k : Int)) none = ⟨(z.cps.toList.drop k).toArray⟩ := by
  unfold cutS
  rw [HT.sIx_none, HT.sIx_nat, Nat.min_eq_left h]
  congr 1
  congr 1
  refine List.take_of_length_le ?_
  rw [List.length_drop, Array.length_toList]
  exact Nat.le_refl _
theorem head_le (l : List Nat) : headN l ≤ l.length := (List.takeWhile_sublist _).length_le
theorem ok_is_name (T : Tx w K mg) : FnG P w K mg base CX0 2 T.a_is_name T.d_is_name ["value"] (spF (p1 fun d => ∀ z, d = .str z → z.length ≤ 1000000) (f1 fun d => .bool (nameD d))) := by
  have G_is_name_end := ok_is_name_end (P := P) (w := w) (base := base) T
  refine bodyF T.F_is_name sc_is_name p1_len fun cdv A outer s H E gd hr => ⟨_, (pss_cons (ps_if (PW.pt (pw_or (pt_not (pt_val (pe_callB call_isD (by rfl) T.z_isinstance (by decide +kernel) (pa_cons (pv 0) (pa_cons (pe_bltn (v := .ty "str") (by rfl) T.z_str (by decide +kernel) rfl) pa_nil))))) (pw_or1 (pt_cmpR (op_inK (K := K) rfl) (pv 0) (C8.pe_gc (by rfl) T.c_NO_NAMES) (by rfl))))) (pss_one (ps_ret pe_bl)) pss_nil)
      (pss_cons (ps_set (i := 1) sc_is_name.nd rfl (Or.inl rfl) pe_int)
      (pss_cons (ps_while PassesOwn.never (PW.pt (pw_and (pt_cmpR op_lt (pv 1) (pe_callB call_len_str (by rfl) T.z_len (by decide +kernel) (pa_cons (pv 0) pa_nil)) (nomark _)) (pw_and1 (pt_cmpR op_in_sign (pe_ix ix_str (pv 0) (pv 1) (fun _ _ => rfl)) (C8.pe_gc (by rfl) T.c_LETTERS) (by rfl))))) (pss_one (ps_aug (i := 1) sc_is_name.nd rfl (Or.inl rfl) pe_int ip_add)))
      (pss_one (ps_ret (pe_and (pe_chain op_le op_le pe_int (pv 1) (C8.pe_gc (by rfl) T.c_MOST_LETTERS)) (pe_one (pe_g G_is_name_end gd (hr.mono (by decide)) (by rfl) T.g_is_name_end T.F_is_name_end.kp T.b_is_name_end .nil pass0 (pa_cons (pe_slice sl_str (pv 0) (po_some (pv 1)) po_none) pa_nil))))))))), ?_⟩
  rintro _ hd ⟨d, rfl, hs⟩
  refine SX.seq (SX.ifS (b := !isStr d || (match d with | .str z => noNames.contains z | _ => false)) (TX.or (TX.not (TX.tB (EX.isi (EX.var rfl) (kit_str d)))) fun h => ?_) (fun h => ?_) fun h => ?_)
  · cases d <;> first | cases h | skip
    rename_i z
    exact TX.test (EX.inKT (EX.var rfl) (EX.con _) T.t_NO_NAMES)
  · refine SX.ret (EX.bl false) ⟨?_, rfl, rfl⟩
    show Sl.dat (.bool false) = .dat (.bool (nameD d))
    cases d <;> first | rfl | skip
    rename_i z
    have h : noNames.contains z = true := h
    show _ = Sl.dat (.bool (nameB z))
    unfold nameB
    rw [h]; rfl
  · cases d <;> first | cases h | skip
    rename_i z
    have h : noNames.contains z = false := h
    have hz := hs z rfl
    have hl := len_list z
    have hh := head_le z.cps.toList
    refine SX.next (SX.seq (SX.set (EX.int 0) (SX.seq ?_)))
    refine SX.while_ (fun m g' => ∃ k, k ≤ headN z.cps.toList ∧ m = headN z.cps.toList - k ∧ g' = ⟨[.dat (.str z), .dat (.int ((k : Nat) : Int))], [], [], hd, []⟩) _ ⟨0, Nat.zero_le _, rfl, rfl⟩ ?_
    rintro m _ ⟨k, hk, rfl, rfl⟩
    obtain ⟨st1, st2⟩ := head_step hk
    by_cases hlt : k < z.length
    · obtain ⟨c, hc⟩ : ∃ c, z.cps.toList[k]? = some c := ⟨_, List.getElem?_eq_getElem (by omega)⟩
      refine TX.tm (TX.and (b := true) (c := decide (c ∈ lettersC)) (TX.test ((EX.b0 (EX.var rfl) (EX.lenS (EX.var rfl) (one_line hz))).dat ?_)) fun _ => TX.test (EX.inS (EX.ixS (EX.var rfl) (EX.var rfl) (one_line hz) (atI_nat hc)) (EX.str _))) ?_
      · show PyData.bool (decide (((k : Nat) : Int) < ((z.length : Nat) : Int))) = .bool true
        rw [decide_eq_true (by omega)]
      · rw [Bool.true_and]
        cases q : decide (c ∈ lettersC) with
        | true =>
          rw [if_pos rfl]
          have := st1 c hc q
          exact SX.aug rfl (by intro z; cases z) (EX.int 1) c_ip ⟨headN z.cps.toList - (k + 1), by omega, k + 1, by omega, rfl, rfl⟩
        | false =>
          rw [if_neg (by decide)]
          have e := st2 fun c' h' => by rw [hc] at h'; cases h'; exact q
          subst e
          refine SX.ret (EX.andV (b := decide (1 ≤ headN z.cps.toList) && decide (headN z.cps.toList ≤ 6)) (c := endB (z.cps.toList.drop (headN z.cps.toList))) ((EX.chain (EX.int 1) (EX.var rfl) c_b0 fun _ => ⟨_, EX.int 6, c_b0⟩).dat ?_) fun _ => ?_) ⟨?_, rfl, rfl⟩
          · congr 2
            · exact decide_eq_decide.mpr (by omega)
            · exact decide_eq_decide.mpr (by omega)
          · exact (EX.call (ds := [.str (cutS z (some (headN z.cps.toList : Int)) none)]) (EAX.cons (EX.slS (EX.var rfl) (EO.some (EX.var rfl)) EO.no (one_line hz)) EAX.nil) ⟨_, rfl, _, rfl, Nat.le_trans (cutS_length ..) hz⟩ (by rw [show (cutS z (some (headN z.cps.toList : Int)) none) = ⟨(z.cps.toList.drop (headN z.cps.toList)).toArray⟩ from cut_from (by omega)]; rfl))
          · show Sl.dat (.bool ((decide (1 ≤ headN z.cps.toList) && decide (headN z.cps.toList ≤ 6)) && endB (z.cps.toList.drop (headN z.cps.toList)))) = .dat (.bool (nameB z))
            unfold nameB
            rw [h]
            simp [Bool.and_assoc]
    · refine TX.tm (TX.and (b := false) (c := false) (TX.test ((EX.b0 (EX.var rfl) (EX.lenS (EX.var rfl) (one_line hz))).dat ?_)) fun z => nomatch z) ?_
      · show PyData.bool (decide (((k : Nat) : Int) < ((z.length : Nat) : Int))) = .bool false
        rw [decide_eq_false (by omega)]
      · have e := st2 fun c' h' => by rw [List.getElem?_eq_none (by omega)] at h'; cases h'
        subst e
        rw [Bool.false_and, if_neg (by decide)]
        refine SX.ret (EX.andV (b := decide (1 ≤ headN z.cps.toList) && decide (headN z.cps.toList ≤ 6)) (c := endB (z.cps.toList.drop (headN z.cps.toList))) ((EX.chain (EX.int 1) (EX.var rfl) c_b0 fun _ => ⟨_, EX.int 6, c_b0⟩).dat ?_) fun _ => ?_) ⟨?_, rfl, rfl⟩
        · congr 2
          · exact decide_eq_decide.mpr (by omega)
          · exact decide_eq_decide.mpr (by omega)
        · exact (EX.call (ds := [.str (cutS z (some (headN z.cps.toList : Int)) none)]) (EAX.cons (EX.slS (EX.var rfl) (EO.some (EX.var rfl)) EO.no (one_line hz)) EAX.nil) ⟨_, rfl, _, rfl, Nat.le_trans (cutS_length ..) hz⟩ (by rw [show (cutS z (some (headN z.cps.toList : Int)) none) = ⟨(z.cps.toList.drop (headN z.cps.toList)).toArray⟩ from cut_from (by omega)]; rfl))
        · show Sl.dat (.bool ((decide (1 ≤ headN z.cps.toList) && decide (headN z.cps.toList ≤ 6)) && endB (z.cps.toList.drop (headN z.cps.toList)))) = .dat (.bool (nameB z))
          unfold nameB
          rw [h]
          simp [Bool.and_assoc]
end

end K07

set_option Elab.async false
set_option linter.all false
set_option maxRecDepth 100000
set_option maxHeartbeats 4000000
namespace K07
open PySem PySem.Spec PyProof.Rows L2 Hw

section
variable {P : Program} {w : World} {K : PySem.W.Frag} {mg : Str → Option Value} {base : Heap}
theorem never {k : Nat} {f : Addr} {fd : FuncData} {ps : List Str} {φ : List Sl → List (Addr × OD) → List (Addr × Nat) → (Sl → List (Addr × OD) → List (Addr × Nat) → Prop) → Prop} (h : ∀ ss ow gn K', ¬ φ ss ow gn K') : FnG P w K mg base CX0 k f fd ps (spM φ) :=
  ⟨fun vs H Q E q => by obtain ⟨ss, g, K', _, _, _, _, z, _⟩ := q; exact absurd z (h _ _ _ _), fun A outer s H args us vs Q E _ _ _ _ _ q => by obtain ⟨ss, g, K', _, _, _, _, z, _⟩ := q; exact absurd z (h _ _ _ _)⟩
def fitD (n : Nat) (k : Str) (d : PyData) : Bool := if k = "expression" then exN n d else if k = "whole" then wholeB d else countB d
def spFits (n : Nat) : Sp := spF (p2 fun a d => ∃ k : Str, a = .str k ∧ (k = "expression" ∨ k = "whole" ∨ k = "count") ∧ okN n d = true) (f2 fun a d => .bool (match a with | .str k => fitD n k d | _ => false))
def partsB (n : Nat) (o : Option (List Str)) (ps : List PyData) : Bool := match o with
  | none => false
  | some ks => decide (ps.length = ks.length) && (ks.zip ps).all fun q => fitD n q.1 q.2
def spParts (K : PySem.W.Frag) (n : Nat) : Sp := spM fun ss ow gn K' => ∃ (o : Option (List Str)) (s : Sl) (ds : List PyData), ss = [s, .dat (.tuple ds)] ∧ IsKT K o s ∧ (o ≠ none → ds ≠ []) ∧ (∀ ks, o = some ks → ks.length ≤ 100 ∧ ∀ k ∈ ks, k = "expression" ∨ k = "whole" ∨ k = "count") ∧ ds.length ≤ 1000000 ∧ (∀ d ∈ ds, okN n d = true) ∧ K' (.dat (.bool (partsB n o ds.tail))) ow gn
def spEx (n : Nat) : Sp := spF (p1 fun d => okN n d = true) (f1 fun d => .bool (exN n d))
theorem ok_fits (T : Tx w K mg) (n j : Nat) (hj : 2 ≤ j) (G_is_expression : FnG P w K mg base CX0 j T.a_is_expression T.d_is_expression ["value"] (spEx n)) : FnG P w K mg base CX0 (j + 1) T.a_fits T.d_fits ["kind", "value"] (spFits n) := by
  have G_is_whole := ok_is_whole (P := P) (w := w) (base := base) T
  have G_is_count := ok_is_count (P := P) (w := w) (base := base) T
  refine bodyF T.F_fits sc_fits p2_len fun cdv A outer s H E gd hr => ⟨_, (pss_cons (ps_if (pt_cmpR op_eq (pv 0) pe_str (nomark _)) (pss_one (ps_ret (pe_g G_is_expression gd (hr.mono (by omega)) (by rfl) T.g_is_expression T.F_is_expression.kp T.b_is_expression .nil pass0 (pa_cons (pv 1) pa_nil)))) pss_nil)
      (pss_cons (ps_if (pt_cmpR op_eq (pv 0) pe_str (nomark _)) (pss_one ps_never) pss_nil)
      (pss_cons (ps_if (pt_cmpR op_eq (pv 0) pe_str (nomark _)) (pss_one (ps_ret (pe_g G_is_whole gd (hr.mono (by omega)) (by rfl) T.g_is_whole T.F_is_whole.kp T.b_is_whole .nil pass0 (pa_cons (pv 1) pa_nil)))) pss_nil)
      (pss_cons (ps_if (pt_cmpR op_eq (pv 0) pe_str (nomark _)) (pss_one (ps_ret (pe_g G_is_count gd (hr.mono (by omega)) (by rfl) T.g_is_count T.F_is_count.kp T.b_is_count .nil pass0 (pa_cons (pv 1) pa_nil)))) pss_nil)
      (pss_cons (ps_if (pt_cmpR op_eq (pv 0) pe_str (nomark _)) (pss_one ps_never) pss_nil)
      (pss_cons (ps_if (pt_cmpR op_eq (pv 0) pe_str (nomark _)) (pss_one ps_never) pss_nil)
      (pss_cons (ps_if (pt_cmpR op_eq (pv 0) pe_str (nomark _)) (pss_one ps_never) pss_nil)
      (pss_one ps_never)))))))), ?_⟩
  rintro _ hd ⟨_, d, rfl, k, rfl, hk, hd'⟩
  have ex1 : ∀ (z : Str) (g : GS), g.sl[0]? = some (.dat (.str k)) → EX (tOp rEq (tVar 0) (tC (.str z))) g (.dat (.bool (decide (k = z)))) := fun z g hg => EX.eqS (EX.var hg) (EX.str z)
  refine SX.seq (SX.ifS (TX.test (ex1 _ _ rfl)) (fun h => ?_) fun h => ?_)
  · have e := of_decide_eq_true h
    subst e
    exact SX.ret (EX.call (ds := [d]) (EAX.cons (EX.var rfl) EAX.nil) ⟨d, rfl, hd'⟩ rfl) ⟨rfl, rfl, rfl⟩
  · have n1 := of_decide_eq_false h
    refine SX.next (SX.seq (SX.ifS (TX.test (ex1 _ _ rfl)) (fun h => ?_) fun h => SX.next (SX.seq (SX.ifS (TX.test (ex1 _ _ rfl)) (fun h => ?_) fun h => SX.next (SX.seq (SX.ifS (TX.test (ex1 _ _ rfl)) (fun h => ?_) fun h => ?_))))))
    · have e := of_decide_eq_true h
      subst e
      rcases hk with z | z | z <;> exact absurd z (by decide)
    · have e := of_decide_eq_true h
      subst e
      exact SX.ret (EX.call (ds := [d]) (EAX.cons (EX.var rfl) EAX.nil) ⟨d, rfl, trivial⟩ rfl) ⟨rfl, rfl, rfl⟩
    · have e := of_decide_eq_true h
      subst e
      exact SX.ret (EX.call (ds := [d]) (EAX.cons (EX.var rfl) EAX.nil) ⟨d, rfl, trivial⟩ rfl) ⟨rfl, rfl, rfl⟩
    · rename_i n2
      have n2 := of_decide_eq_false n2
      have n3 := of_decide_eq_false h
      rcases hk with z | z | z
      · exact absurd z n1
      · exact absurd z (of_decide_eq_false (by assumption))
      · exact absurd z n3
theorem ok_has_parts (T : Tx w K mg) (n j : Nat) (G_fits : FnG P w K mg base CX0 j T.a_fits T.d_fits ["kind", "value"] (spFits n)) : FnG P w K mg base CX0 (j + 1) T.a_has_parts T.d_has_parts ["kinds", "value"] (spParts K n) := by
  refine bodyM T.F_has_parts sc_has_parts (fun ss ow gn K' h => by obtain ⟨o, s, ds, rfl, _⟩ := h; rfl) fun cdv A outer s H E gd hr => ⟨_, (pss_cons (ps_if (PW.pt (pw_or (pt_cmpR op_isN (pv 0) pe_non (nomark _)) (pw_or1 (pt_cmpR op_ne (pe_callB (call_lenK (K := K) rfl) (by rfl) T.z_len (by decide +kernel) (pa_cons (pv 1) pa_nil)) (pe_op op_add (pe_callB (call_lenK (K := K) rfl) (by rfl) T.z_len (by decide +kernel) (pa_cons (pv 0) pa_nil)) pe_int) (nomark _))))) (pss_one (ps_ret pe_bl)) pss_nil)
      (pss_cons (ps_for PassesOwn.never rfl (RZ.pi_zipA (by rfl) T.z_zip (pa_cons (pv 0) (pa_cons (pe_slice (sl_tupK (K := K) rfl) (pv 1) (po_some pe_int) po_none) pa_nil))) (pg_tup (by rfl) (pgs_cons (pg_name (i := 2) sc_has_parts.nd rfl (Or.inl rfl)) (pgs_cons (pg_name (i := 3) sc_has_parts.nd rfl (Or.inl rfl)) pgs_nil))) (pss_one (ps_if (pt_not (pt_val (pe_g G_fits gd (hr.mono (by omega)) (by rfl) T.g_fits T.F_fits.kp T.b_fits .nil pass0 (pa_cons (pv 2) (pa_cons (pv 3) pa_nil))))) (pss_one (ps_ret pe_bl)) pss_nil)))
      (pss_one (ps_ret pe_bl)))), ?_⟩
  rintro _ ow gn hd pw K' ⟨o, s, ds, rfl, hs, hne, hks, hl, hds, k⟩
  rcases hs with ⟨rfl, rfl⟩ | ⟨ks, p, rfl, rfl, hp⟩
  · refine SX.seq (SX.ifS (b := true) (TX.or (b := true) (c := true) (TX.test (EX.isN (d := PyData.none) (EX.var rfl) EX.non)) fun z => nomatch z) (fun _ => SX.ret (EX.bl false) ⟨k, rfl, rfl⟩) fun z => nomatch z)
  · obtain ⟨kl, hk⟩ := hks ks rfl
    obtain ⟨x, ps, rfl⟩ : ∃ x ps, ds = x :: ps := by
      cases ds with
      | nil => exact absurd rfl (hne (fun z => nomatch z))
      | cons x ps => exact ⟨x, ps, rfl⟩
    have hps : ∀ d ∈ ps, okN n d = true := fun d h => hds d (List.mem_cons_of_mem _ h)
    have k : K' (.dat (.bool (partsB n (some ks) ps))) ow gn := k
    refine SX.seq (SX.ifS (TX.or (TX.test (EX.isNc (EX.var rfl) EX.non)) fun _ => TX.test (EX.neI (EX.lenT (EX.var rfl)) (EX.i0 (EX.lenKT (EX.var rfl) hp) (EX.int 1)))) (fun h => ?_) fun h => ?_)
    · refine SX.ret (EX.bl false) ⟨?_, rfl, rfl⟩
      have h : (false || !decide (((x :: ps).length : Int) = (ks.length : Int) + 1)) = true := h
      have : partsB n (some ks) ps = false := by
        show (decide (ps.length = ks.length) && _) = false
        rw [decide_eq_false, Bool.false_and]
        intro e
        rw [decide_eq_true (by rw [List.length_cons]; omega)] at h
        cases h
      rw [this] at k
      exact k
    · have h : (false || !decide (((x :: ps).length : Int) = (ks.length : Int) + 1)) = false := h
      have el : ps.length = ks.length := by
        have h2 : decide (((x :: ps).length : Int) = (ks.length : Int) + 1) = true := by
          cases q : decide (((x :: ps).length : Int) = (ks.length : Int) + 1) with
          | true => rfl
          | false => rw [q] at h; cases h
        have := of_decide_eq_true h2
        rw [List.length_cons] at this
        omega
      have cut : Hw.cutD (x :: ps) (some 1) none = ps := by
        unfold Hw.cutD
        rw [HT.sIx_none, show HT.sIx (x :: ps).length 0 (some 1) = min 1 (x :: ps).length from HT.sIx_nat _ _ 1, show min 1 (x :: ps).length = 1 by rw [List.length_cons]; omega]
        show (ps.take ((x :: ps).length - 1)) = ps
        exact List.take_of_length_le (by rw [List.length_cons]; omega)
      refine SX.next (SX.seq (SX.for_ (its := zipS (ks.map .str) ps) (IT.zipKT (p := p) (ks := ks) (EAX.cons (EX.var rfl) (EAX.cons ((EX.slT (EX.var rfl) (EO.some (EX.int 1)) EO.no).dat (by rw [cut])) EAX.nil)) hp) (fun i g' => ((ks.zip ps).take i).all (fun q => fitD n q.1 q.2) = true ∧ ∃ s2 s3, g' = ⟨[.con (.ref p), .dat (.tuple (x :: ps)), s2, s3], ow, gn, hd, pw⟩) ⟨rfl, _, _, rfl⟩ ?_ ?_))
      · rintro i s _ hs ⟨ih, s2, s3, rfl⟩
        unfold zipS at hs
        obtain ⟨⟨a, d⟩, hq, rfl⟩ := getElem?_map_some hs
        obtain ⟨h1, h2⟩ := List.getElem?_zip_eq_some.mp hq
        obtain ⟨k1, hk1, rfl⟩ := getElem?_map_some h1
        have hz : (ks.zip ps)[i]? = some (k1, d) := List.getElem?_zip_eq_some.mpr ⟨hk1, h2⟩
        refine GX.tup rfl (GXs.cons (GX.name (GXs.cons (GX.name (GXs.nil ?_)))))
        refine SX.ifS (b := !fitD n k1 d) (TX.not (TX.tB (EX.call (ds := [.str k1, d]) (EAX.cons (EX.var rfl) (EAX.cons (EX.var rfl) EAX.nil)) ⟨_, d, rfl, k1, rfl, hk k1 (List.mem_of_getElem? hk1), hps d (List.mem_of_getElem? h2)⟩ rfl))) (fun h => ?_) fun h => ?_
        · refine SX.ret (EX.bl false) ⟨?_, rfl, rfl⟩
          have : partsB n (some ks) ps = false := by
            show (decide (ps.length = ks.length) && _) = false
            rw [Bool.and_eq_false_iff]
            refine .inr ?_
            rw [List.all_eq_false]
            refine ⟨_, List.mem_of_getElem? hz, ?_⟩
            intro z
            rw [show fitD n k1 d = true from z] at h
            cases h
          rw [this] at k
          exact k
        · refine SX.next ⟨?_, _, _, rfl⟩
          rw [List.take_add_one, hz, List.all_append, ih]
          show (true && (fitD n k1 d && true)) = true
          cases q : fitD n k1 d with
          | true => rfl
          | false => rw [q] at h; cases h
      · rintro _ ⟨h1, s2, s3, rfl⟩
        refine SX.ret (EX.bl true) ⟨?_, rfl, rfl⟩
        have : partsB n (some ks) ps = true := by
          show (decide (ps.length = ks.length) && _) = true
          rw [decide_eq_true el, Bool.true_and]
          have e : (zipS (ks.map PyData.str) ps).length = (ks.zip ps).length := by unfold zipS; rw [List.length_map, List.length_zip, List.length_zip, List.length_map]
          rw [e, List.take_length] at h1
          exact h1
        rw [this] at k
        exact k
theorem exprT_ok : ∀ z ks, exprT.lookup z = some ks → ks.length ≤ 100 ∧ ∀ k ∈ ks, k = "expression" ∨ k = "whole" ∨ k = "count" := by
  intro z ks h
  have : ∀ p ∈ exprT, p.2.length ≤ 100 ∧ ∀ k ∈ p.2, k = ("expression" : Str) ∨ k = "whole" ∨ k = "count" := by decide +kernel
  have key : ∀ (l : List (Str × List Str)), l.lookup z = some ks → ∃ p ∈ l, p.2 = ks := by
    intro l
    induction l with
    | nil => intro h; cases h
    | cons q r ih =>
      intro h
      rw [List.lookup_cons] at h
      split at h
      · cases h; exact ⟨q, List.mem_cons_self .., rfl⟩
      · obtain ⟨p, h1, h2⟩ := ih h
        exact ⟨p, List.mem_cons_of_mem _ h1, h2⟩
  obtain ⟨p, h1, h2⟩ := key exprT h
  rw [← h2]
  exact this p h1
theorem exN_tup (n : Nat) (x : PyData) (ps : List PyData) : exN (n + 1) (.tuple (x :: ps)) = partsB n (exprT.lookup (firstW (.tuple (x :: ps)))) ps := by
  show (match exprT.lookup (firstW (.tuple (x :: ps))) with | none => false | some ks => decide (ps.length = ks.length) && (ks.zip ps).all fun q => if q.1 = "expression" then exN n q.2 else if q.1 = "whole" then wholeB q.2 else countB q.2) = _
  unfold partsB
  cases exprT.lookup (firstW (.tuple (x :: ps))) <;> rfl
theorem ok_ex_one (T : Tx w K mg) (n j : Nat) (hj : 2 ≤ j) (G_has_parts : FnG P w K mg base CX0 j T.a_has_parts T.d_has_parts ["kinds", "value"] (match n with | 0 => spM fun _ _ _ _ => False | n + 1 => spParts K n)) : FnG P w K mg base CX0 (j + 1) T.a_is_expression T.d_is_expression ["value"] (spEx n) := by
  have G_is_whole := ok_is_whole (P := P) (w := w) (base := base) T
  have G_is_name := ok_is_name (P := P) (w := w) (base := base) T
  have G_first_word := ok_first_word (P := P) (w := w) (base := base) T
  refine bodyF T.F_is_expression sc_is_expression p1_len fun cdv A outer s H E gd hr => ⟨_, (pss_cons (ps_if (pt_val (pe_callB call_isD (by rfl) T.z_isinstance (by decide +kernel) (pa_cons (pv 0) (pa_cons (pe_bltn (v := .ty "tuple") (by rfl) T.z_tuple (by decide +kernel) rfl) pa_nil)))) (pss_one (ps_ret (pe_g G_has_parts gd (hr.mono (by omega)) (by rfl) T.g_has_parts T.F_has_parts.kp T.b_has_parts .nil pass0 (pa_cons (pe_kget rfl rfl T.t_EXPRESSION_PARTS (C8.pe_gc (by rfl) T.c_EXPRESSION_PARTS) (pe_g G_first_word gd (hr.mono (by omega)) (by rfl) T.g_first_word T.F_first_word.kp T.b_first_word .nil pass0 (pa_cons (pv 0) pa_nil)) ⟨rfl, by rfl, by rfl, by rfl⟩) (pa_cons (pv 0) pa_nil))))) pss_nil)
      (pss_one (ps_ret (pe_or (pe_g G_is_whole gd (hr.mono (by omega)) (by rfl) T.g_is_whole T.F_is_whole.kp T.b_is_whole .nil pass0 (pa_cons (pv 0) pa_nil)) (pe_one (pe_g G_is_name gd (hr.mono (by omega)) (by rfl) T.g_is_name T.F_is_name.kp T.b_is_name .nil pass0 (pa_cons (pv 0) pa_nil))))))), ?_⟩
  rintro _ hd ⟨d, rfl, hd'⟩
  refine SX.seq (SX.ifS (TX.tB (EX.isi (EX.var rfl) (kit_tuple d))) (fun h => ?_) fun h => ?_)
  · cases d <;> first | cases h | skip
    rename_i ds
    cases n with
    | zero => cases hd'
    | succ n =>
      have hd' : (decide (ds.length ≤ 1000000) && ds.all (okN n)) = true := hd'
      rw [Bool.and_eq_true] at hd'
      have hl := of_decide_eq_true hd'.1
      have ha := List.all_eq_true.mp hd'.2
      refine SX.retM (EM.callM (EA.cons (EM.kget T.t_EXPRESSION_PARTS (EX.call (ds := [.tuple ds]) (EAX.cons (EX.var rfl) EAX.nil) ⟨_, rfl, trivial⟩ rfl) fun s2 hs2 => EA.cons ((EX.var rfl).em (EA.nil ?_)))))
      have e0 : exprT.lookup ("" : Str) = none := by decide +kernel
      refine ⟨_, s2, ds, rfl, hs2, fun hne z => ?_, fun ks e => exprT_ok _ _ e, hl, ha, ?_, rfl, rfl⟩
      · subst z
        exact hne e0
      · cases ds with
        | nil =>
          show Sl.dat (.bool (partsB n (exprT.lookup ("" : Str)) [])) = .dat (.bool false)
          rw [e0]; rfl
        | cons x ps =>
          show Sl.dat (.bool (partsB n (exprT.lookup (firstW (.tuple (x :: ps)))) ps)) = .dat (.bool (exN (n + 1) (.tuple (x :: ps))))
          rw [exN_tup]
  · refine SX.next (SX.ret (EX.orV (b := wholeB d) (c := nameD d) (EX.call (ds := [d]) (EAX.cons (EX.var rfl) EAX.nil) ⟨d, rfl, trivial⟩ rfl) fun _ => EX.call (ds := [d]) (EAX.cons (EX.var rfl) EAX.nil) ⟨d, rfl, fun z e => ?_⟩ rfl) ⟨?_, rfl, rfl⟩)
    · subst e
      cases n <;> exact of_decide_eq_true hd'
    · show Sl.dat (.bool (wholeB d || nameD d)) = .dat (.bool (exN n d))
      cases d <;> first | exact Bool.noConfusion (show true = false from h) | (cases n <;> rfl)
theorem ok_is_expression (T : Tx w K mg) : ∀ n : Nat, FnG P w K mg base CX0 (3 * n + 3) T.a_is_expression T.d_is_expression ["value"] (spEx n)
  | 0 => ok_ex_one T 0 2 (by omega) (never fun _ _ _ _ z => z)
  | n + 1 => ok_ex_one T (n + 1) (3 * n + 3 + 1 + 1) (by omega) (ok_has_parts T n (3 * n + 3 + 1) (ok_fits T n (3 * n + 3) (by omega) (ok_is_expression T n)))
end

end K07

set_option Elab.async false
set_option linter.all false
set_option maxRecDepth 100000
set_option maxHeartbeats 4000000
namespace K07
open PySem PySem.Spec PyProof.Rows L2 Hw

section
variable {P : Program} {w : World} {K : PySem.W.Frag} {mg : Str → Option Value} {base : Heap}
/-- the names that expressions are made of -/
def Nn (ns : List Str) : Prop := ∀ z ∈ ns, nameB z = true ∧ z.length ≤ 10 ∧ okD (.str z) = true ∧ z.cps.size ≤ 10
theorem Nn.b {ns : List Str} (h : Nn ns) : ∀ z ∈ ns, okD (.str z) = true ∧ z.cps.size ≤ 10 := fun z hz => (h z hz).2.2
theorem et_nice {ns : List Str} (hn : Nn ns) {e : Et} (h : e.ok ns) (hd : e.depth ≤ 5) : Nice e.d := (Et.bnd hn.b e 5 hd h).nice (by decide) (by decide)
theorem ok_check_expression (T : Tx w K mg) : FnG P w K mg base CX0 19 T.a_check_expression T.d_check_expression ["expression"] (spR fun ds r => ∃ (e : Et) (ns : List Str), ds = [e.d] ∧ Nn ns ∧ e.ok ns ∧ e.depth ≤ 5 ∧ r = .none) := by
  have G_is_expression := ok_is_expression (P := P) (w := w) (base := base) T 5
  refine bodyR T.F_check_expression sc_check_expression (fun ds r h => by obtain ⟨e, ns, rfl, _⟩ := h; rfl) fun cdv A outer s H E gd hr => ⟨_, (pss_one (ps_if (pt_not (pt_val (pe_g G_is_expression gd (hr.mono (by decide)) (by rfl) T.g_is_expression T.F_is_expression.kp T.b_is_expression .nil pass0 (pa_cons (pv 0) pa_nil)))) (pss_one ps_never) pss_nil)), ?_⟩
  rintro _ _ hd ⟨e, ns, rfl, hn, he, hde, rfl⟩
  refine SX.ifS (b := false) (TX.not (b := true) (TX.tB (EX.call (ds := [e.d]) (EAX.cons (EX.var rfl) EAX.nil) ⟨_, rfl, Et.okN_d (fun z hz => (hn z hz).2.1) e 5 hde he⟩ ?_))) (fun z => nomatch z) fun _ => SX.next ⟨rfl, rfl, rfl⟩
  exact congrArg PyData.bool (Et.exN_d (fun z hz => (hn z hz).1) e 5 hde he)
theorem neverR_ {k : Nat} {f : Addr} {fd : FuncData} {ps : List Str} {R : List PyData → PyData → Prop} (h : ∀ ds r, ¬ R ds r) : FnG P w K mg base CX0 k f fd ps (spR R) :=
  ⟨fun vs H Q E q => by obtain ⟨ds, r, l, _, _, _, z, _⟩ := q; exact absurd z (h _ _), fun A outer s H args us vs Q E _ _ _ _ _ q => by obtain ⟨ds, r, l, _, _, _, z, _⟩ := q; exact absurd z (h _ _)⟩
end

end K07

set_option Elab.async false
set_option linter.all false
set_option maxRecDepth 100000
set_option maxHeartbeats 4000000
namespace K07
open PySem PySem.Spec PyProof.Rows L2 Hw

section
variable {P : Program} {w : World} {K : PySem.W.Frag} {mg : Str → Option Value} {base : Heap}
theorem pow_abs (i : Nat) : ((2 : Int) ^ i).natAbs < 2 ^ (i + 1) := by
  rw [Int.natAbs_pow, Nat.pow_succ]
  have := Nat.pow_pos (n := i) (show 0 < 2 by decide)
  show 2 ^ i < 2 ^ i * 2
  omega
theorem ok_law_power (T : Tx w K mg) : FnG P w K mg base CX0 1 T.a_law_power T.d_law_power ["_law_many"] (spR fun ds r => ∃ n : Nat, ds = [.int (n : Int)] ∧ n ≤ 2000 ∧ r = .int (2 ^ n)) := by
  refine bodyR T.F_law_power sc_law_power (fun ds r h => by obtain ⟨n, rfl, _⟩ := h; rfl) fun cdv A outer s H E gd hr => ⟨_, (pss_cons (ps_set (i := 1) sc_law_power.nd rfl (Or.inl rfl) pe_int)
      (pss_cons (ps_for PassesOwn.never rfl (pi_range1 (by rfl) T.z_range (pa_cons (pv 0) pa_nil)) (pg_name (i := 2) sc_law_power.nd rfl (Or.inl rfl)) (pss_one (ps_set (i := 1) sc_law_power.nd rfl (Or.inl rfl) (pe_op op_mulX (pv 1) pe_int))))
      (pss_one (ps_ret (pv 1))))), ?_⟩
  rintro _ _ hd ⟨n, rfl, hn, rfl⟩
  refine SX.seq (SX.set (EX.int 1) (SX.seq (SX.for_ (IT.range1 (EAX.cons (EX.var rfl) EAX.nil) (by omega)) (fun i g' => ∃ s2, g' = ⟨[.dat (.int (n : Int)), .dat (.int (2 ^ i)), s2], [], [], hd, []⟩) ⟨_, rfl⟩ ?_ ?_)))
  · rintro i s _ hs ⟨s2, rfl⟩
    have hi := (List.getElem?_eq_some_iff.mp hs).1
    unfold rangeS at hi
    rw [List.length_map, List.length_range] at hi
    refine GX.name (SX.set (EX.iC (EX.var rfl) (EX.int 2) (mulx_ok (pow_abs i) (b := 3) (by decide) (by omega))) ⟨_, rfl⟩)
  · rintro _ ⟨s2, rfl⟩
    unfold rangeS
    rw [List.length_map, List.length_range]
    exact SX.ret (EX.var rfl) ⟨rfl, rfl, rfl⟩
theorem ok_law_bit (T : Tx w K mg) : FnG P w K mg base CX0 2 T.a_law_bit T.d_law_bit ["_law_word", "_law_place"] (spR fun ds r => ∃ x p : Nat, ds = [.int (x : Int), .int (p : Int)] ∧ p ≤ 2000 ∧ r = .int ((x / 2 ^ p % 2 : Nat) : Int)) := by
  have G_law_power := ok_law_power (P := P) (w := w) (base := base) T
  refine bodyR T.F_law_bit sc_law_bit (fun ds r h => by obtain ⟨x, p, rfl, _⟩ := h; rfl) fun cdv A outer s H E gd hr => ⟨_, (pss_one (ps_ret (pe_op op_mod (pe_callTy call_int1 (by rfl) T.z_int (by decide +kernel) (pa_cons (pe_op op_fdivW (pv 0) (pe_g G_law_power gd (hr.mono (by decide)) (by rfl) T.g_law_power T.F_law_power.kp T.b_law_power .nil pass0 (pa_cons (pv 1) pa_nil))) pa_nil)) pe_int))), ?_⟩
  rintro _ _ hd ⟨x, p, rfl, hp, rfl⟩
  refine SX.ret ((EX.mod (EX.intI (EX.iC (EX.var rfl) (EX.callR (ds := [.int (p : Int)]) (EAX.cons (EX.var rfl) EAX.nil) ⟨p, rfl, hp, rfl⟩) (wide_div (p2pos p) (pow_abs p) (by omega) (by omega)))) (EX.int 2) (by show (0 : Int) < 2; decide)).dat ?_) ⟨rfl, rfl, rfl⟩
  rw [Int.natCast_emod, Int.natCast_ediv, p2cast]
  rfl
def spVal (n : Nat) : Sp := spR fun ds r => ∃ (wd : Nat) (e : Et) (kvs : List (Str × Int)) (ns : List Str), ds = [.int (wd : Int), e.d, dictD kvs] ∧ wd ≤ 64 ∧ e.ok ns ∧ e.depth ≤ n ∧ n ≤ 10 ∧ (∀ z ∈ ns, ∃ v : Nat, kvs.lookup z = some (v : Int) ∧ v < 2 ^ wd) ∧ r = .int ((lvN wd (rho kvs) e : Nat) : Int)
theorem rho_of {kvs : List (Str × Int)} {z : Str} {v : Nat} (h : kvs.lookup z = some (v : Int)) : rho kvs z = v := by unfold rho; rw [h]; rfl
def numOps : List Str := ["times", "up", "down"]
def addOps : List Str := ["plus", "minus"]
theorem value_one (T : Tx w K mg) (n j : Nat) (hj : 3 ≤ j) (G_law_value : FnG P w K mg base CX0 j T.a_law_value T.d_law_value ["_law_width", "_law_told", "_law_words_here"] (match n with | 0 => spR fun _ _ => False | n + 1 => spVal n)) : FnG P w K mg base CX0 (j + 1) T.a_law_value T.d_law_value ["_law_width", "_law_told", "_law_words_here"] (spVal n) := by
  have G_law_power := ok_law_power (P := P) (w := w) (base := base) T
  have G_law_bit := ok_law_bit (P := P) (w := w) (base := base) T
  refine bodyR T.F_law_value sc_law_value (fun ds r h => by obtain ⟨wd, e, kvs, ns, rfl, _⟩ := h; rfl) fun cdv A outer s H E gd hr => ⟨_, (pss_cons (ps_set (i := 3) sc_law_value.nd rfl (Or.inl rfl) (pe_g G_law_power gd (hr.mono (by omega)) (by rfl) T.g_law_power T.F_law_power.kp T.b_law_power .nil pass0 (pa_cons (pv 0) pa_nil)))
      (pss_cons (ps_if (pt_val (pe_callB call_isD (by rfl) T.z_isinstance (by decide +kernel) (pa_cons (pv 1) (pa_cons (pe_bltn (v := .ty "str") (by rfl) T.z_str (by decide +kernel) rfl) pa_nil)))) (pss_one (ps_ret (pe_dget (hu_of hr) (pv 2) (pv 1) (fun _ _ => rfl)))) pss_nil)
      (pss_cons (ps_if (pt_val (pe_callB call_isD (by rfl) T.z_isinstance (by decide +kernel) (pa_cons (pv 1) (pa_cons (pe_bltn (v := .ty "int") (by rfl) T.z_int (by decide +kernel) rfl) pa_nil)))) (pss_one (ps_ret (pe_op op_mod (pe_callTy call_int1 (by rfl) T.z_int (by decide +kernel) (pa_cons (pv 1) pa_nil)) (pv 3)))) pss_nil)
      (pss_cons (ps_setLc (i := 4) (own := [("_law_part", 10)]) (g := gName 10) rfl sc_law_value.nd rfl rfl (sw_true rfl rfl rfl (by decide +kernel)) (pi_tup (pe_slice (sl_tupK (K := K) rfl) (pv 1) (po_some pe_int) po_none)) (blkOk_by (N := ["_law_width", "_law_told", "_law_words_here", "_law_whole", "_law_parts", "_law_inner", "_law_found", "_law_place", "_law_many", "_law_wanted", "_law_part"]) (sc := defScope s_law_value) (by decide +kernel)) (fun _ _ _ _ _ => (pg_name (i := 10) sc_law_value.nd rfl (Or.inl rfl))) (fun _ _ _ _ _ => (pts_one (pt_cmpR (op_notInK (K := K) rfl) (pe_ix (ix_seqK (K := K) rfl) (pv 1) pe_int (fun _ _ => rfl)) (pe_lst (pa_cons pe_str (pa_cons pe_str (pa_cons pe_str pa_nil)))) (by rfl)))) (fun _ _ _ _ _ => (pe_g G_law_value gd (hr.mono (by omega)) (by rfl) T.g_law_value T.F_law_value.kp T.b_law_value .nil pass0 (pa_cons (pv 0) (pa_cons (pv 10) (pa_cons (pv 2) pa_nil))))))
      (pss_cons (ps_if (pt_cmpR (op_inK (K := K) rfl) (pe_ix (ix_seqK (K := K) rfl) (pv 1) pe_int (fun _ _ => rfl)) (pe_lst (pa_cons pe_str (pa_cons pe_str (pa_cons pe_str pa_nil)))) (by rfl)) (pss_cons (ps_set (i := 5) sc_law_value.nd rfl (Or.inl rfl) (pe_g G_law_value gd (hr.mono (by omega)) (by rfl) T.g_law_value T.F_law_value.kp T.b_law_value .nil pass0 (pa_cons (pv 0) (pa_cons (pe_ix (ix_seqK (K := K) rfl) (pv 1) pe_int (fun _ _ => rfl)) (pa_cons (pv 2) pa_nil)))))
      (pss_cons (ps_if (pt_cmpR op_eq (pe_ix (ix_seqK (K := K) rfl) (pv 1) pe_int (fun _ _ => rfl)) pe_str (nomark _)) (pss_one (ps_ret (pe_op op_fdivW (pv 5) (pe_g G_law_power gd (hr.mono (by omega)) (by rfl) T.g_law_power T.F_law_power.kp T.b_law_power .nil pass0 (pa_cons (pe_ix (ix_seqK (K := K) rfl) (pv 1) pe_int (fun _ _ => rfl)) pa_nil))))) pss_nil)
      (pss_one (ps_ret (pe_op op_mod (pe_callTy call_int1 (by rfl) T.z_int (by decide +kernel) (pa_cons (pe_op op_mulX (pv 5) (pe_ifExp (pt_cmpR op_eq (pe_ix (ix_seqK (K := K) rfl) (pv 1) pe_int (fun _ _ => rfl)) pe_str (nomark _)) (pe_ix (ix_seqK (K := K) rfl) (pv 1) pe_int (fun _ _ => rfl)) (pe_g G_law_power gd (hr.mono (by omega)) (by rfl) T.g_law_power T.F_law_power.kp T.b_law_power .nil pass0 (pa_cons (pe_ix (ix_seqK (K := K) rfl) (pv 1) pe_int (fun _ _ => rfl)) pa_nil)))) pa_nil)) (pv 3)))))) pss_nil)
      (pss_cons (ps_if (pt_cmpR op_eq (pe_ix (ix_seqK (K := K) rfl) (pv 1) pe_int (fun _ _ => rfl)) pe_str (nomark _)) (pss_one (ps_ret (pe_op op_sub (pe_op op_sub (pv 3) pe_int) (pe_ix (ix_listK (K := K) rfl) (pv 4) pe_int (fun _ _ => rfl))))) pss_nil)
      (pss_cons (ps_if (pt_cmpR (op_inK (K := K) rfl) (pe_ix (ix_seqK (K := K) rfl) (pv 1) pe_int (fun _ _ => rfl)) (pe_lst (pa_cons pe_str (pa_cons pe_str pa_nil))) (by rfl)) (pss_one (ps_ret (pe_op op_mod (pe_callTy call_int1 (by rfl) T.z_int (by decide +kernel) (pa_cons (pe_op op_add (pe_ix (ix_listK (K := K) rfl) (pv 4) pe_int (fun _ _ => rfl)) (pe_ifExp (pt_cmpR op_eq (pe_ix (ix_seqK (K := K) rfl) (pv 1) pe_int (fun _ _ => rfl)) pe_str (nomark _)) (pe_ix (ix_listK (K := K) rfl) (pv 4) pe_int (fun _ _ => rfl)) (pe_op op_sub pe_int (pe_ix (ix_listK (K := K) rfl) (pv 4) pe_int (fun _ _ => rfl))))) pa_nil)) (pv 3)))) pss_nil)
      (pss_cons (ps_set (i := 6) sc_law_value.nd rfl (Or.inl rfl) pe_int)
      (pss_cons (ps_for PassesOwn.never rfl (pi_range1 (by rfl) T.z_range (pa_cons (pv 0) pa_nil)) (pg_name (i := 7) sc_law_value.nd rfl (Or.inl rfl)) (pss_cons (ps_set (i := 8) sc_law_value.nd rfl (Or.inl rfl) (pe_op op_add (pe_g G_law_bit gd (hr.mono (by omega)) (by rfl) T.g_law_bit T.F_law_bit.kp T.b_law_bit .nil pass0 (pa_cons (pe_ix (ix_listK (K := K) rfl) (pv 4) pe_int (fun _ _ => rfl)) (pa_cons (pv 7) pa_nil))) (pe_g G_law_bit gd (hr.mono (by omega)) (by rfl) T.g_law_bit T.F_law_bit.kp T.b_law_bit .nil pass0 (pa_cons (pe_ix (ix_listK (K := K) rfl) (pv 4) pe_int (fun _ _ => rfl)) (pa_cons (pv 7) pa_nil)))))
      (pss_cons (ps_set (i := 9) sc_law_value.nd rfl (Or.inl rfl) (pe_ix (ix_listK (K := K) rfl) (pe_lst (pa_cons (pe_lst (pa_cons pe_int pa_nil)) (pa_cons (pe_lst (pa_cons pe_int (pa_cons pe_int pa_nil))) (pa_cons (pe_lst (pa_cons pe_int pa_nil)) pa_nil)))) (pe_bm PySem.F.plainAttrs_list PySem.F.slot_list_index PySem.F.type_list_index (mt_indexT (units1 hr)) (pe_lst (pa_cons pe_str (pa_cons pe_str (pa_cons pe_str pa_nil)))) (pa_cons (pe_ix (ix_seqK (K := K) rfl) (pv 1) pe_int (fun _ _ => rfl)) pa_nil)) (fun _ _ => rfl)))
      (pss_one (ps_set (i := 6) sc_law_value.nd rfl (Or.inl rfl) (pe_op op_add (pv 6) (pe_op op_mulX (pe_g G_law_power gd (hr.mono (by omega)) (by rfl) T.g_law_power T.F_law_power.kp T.b_law_power .nil pass0 (pa_cons (pv 7) pa_nil)) (pe_callTy call_int1 (by rfl) T.z_int (by decide +kernel) (pa_cons (pe_cmpR (op_inK (K := K) rfl) (pv 8) (pv 9) (by rfl)) pa_nil)))))))))
      (pss_one (ps_ret (pv 6)))))))))))), ?_⟩
  rintro _ _ hd ⟨wd, e, kvs, ns, rfl, hw, he, hde, hn, hk, rfl⟩
  have hl : ∀ a : Et, a.ok ns → lvN wd (rho kvs) a < 2 ^ wd := lvN_lt fun z hz => by
    obtain ⟨v, h1, h2⟩ := hk z hz
    rw [rho_of h1]; exact h2
  have w64 : (2 : Nat) ^ wd ≤ 2 ^ 64 := Nat.pow_le_pow_right (by decide) hw
  have small : ∀ a : Et, a.ok ns → ((lvN wd (rho kvs) a : Nat) : Int).natAbs < 2 ^ 64 := fun a ha => by have := hl a ha; omega
  have pp := p2pos wd
  have pc := p2cast wd
  refine SX.seq (SX.set (EX.callR (ds := [.int (wd : Int)]) (EAX.cons (EX.var rfl) EAX.nil) ⟨wd, rfl, by omega, rfl⟩) ?_)
  refine SX.seq (SX.ifS (TX.tB (EX.isi (EX.var rfl) (kit_str e.d))) (fun h => ?_) fun h => ?_)
  · cases e with
    | nm z =>
      obtain ⟨v, h1, h2⟩ := hk z he
      refine SX.ret (EX.dget (kvs := kvs) (z := z) (i := (v : Int)) (EX.var rfl) (EX.var rfl) h1) ⟨?_, rfl, rfl⟩
      show Sl.dat (.int (v : Int)) = .dat (.int ((rho kvs z : Nat) : Int))
      rw [rho_of h1]
    | _ => cases h
  refine SX.next (SX.seq (SX.ifS (TX.tB (EX.isi (EX.var rfl) (kit_int e.d))) (fun h2 => ?_) fun h2 => ?_))
  · cases e with
    | int i =>
      refine SX.ret ((EX.mod (EX.intI (EX.var rfl)) (EX.var rfl) pp).dat ?_) ⟨rfl, rfl, rfl⟩
      exact congrArg PyData.int (emod_nat i wd).symm
    | _ => cases h2
  refine SX.next ?_
  cases n with
  | zero =>
    cases e with
    | int i => cases h2
    | nm z => cases h
    | turned a => exact absurd hde (Nat.not_succ_le_zero _)
    | times i a => exact absurd hde (Nat.not_succ_le_zero _)
    | up i a => exact absurd hde (Nat.not_succ_le_zero _)
    | down i a => exact absurd hde (Nat.not_succ_le_zero _)
    | bin o a b => exact absurd hde (Nat.not_succ_le_zero _)
  | succ n =>
    have rc : ∀ (a : Et) (g : GS) (t1 t2 t3 : TE) , a.ok ns → a.depth ≤ n → EX t1 g (.dat (.int (wd : Int))) → EX t2 g (.dat a.d) → EX t3 g (.dat (dictD kvs)) → EX (tCall (spVal n) [] E0 (tCons t1 (tCons t2 (tCons t3 tNil)))) g (.dat (.int ((lvN wd (rho kvs) a : Nat) : Int))) := fun a g t1 t2 t3 ha hda e1 e2 e3 =>
      EX.callR (ds := [.int (wd : Int), a.d, dictD kvs]) (EAX.cons e1 (EAX.cons e2 (EAX.cons e3 EAX.nil))) ⟨wd, a, kvs, ns, rfl, hw, ha, hda, by omega, hk, rfl⟩
    have w0 : ∀ (z : Str) (r : List PyData) (g : GS), g.sl[1]? = some (.dat (.tuple (.str z :: r))) → EX (tOp (rIx K) (tVar 1) (tC (.int 0))) g (.dat (.str z)) := fun z r g hg => EX.ixQ (EX.var hg) (EX.int 0) (.inr rfl) (atI_nat (j := 0) rfl)
    have l3 : ∀ g : GS, EX (tLst (tCons (tC (.str "times")) (tCons (tC (.str "up")) (tCons (tC (.str "down")) tNil)))) g (.dat (.list (numOps.map .str))) := fun g => EX.lst (ds := numOps.map .str) (EDs.ea (.cons (EX.str _) (.cons (EX.str _) (.cons (EX.str _) .nil)))) (by decide)
    have l2 : ∀ g : GS, EX (tLst (tCons (tC (.str "plus")) (tCons (tC (.str "minus")) tNil))) g (.dat (.list (addOps.map .str))) := fun g => EX.lst (ds := addOps.map .str) (EDs.ea (.cons (EX.str _) (.cons (EX.str _) .nil))) (by decide)
    cases e with
    | int i => cases h2
    | nm z => cases h
    | turned a =>
      have hda := Nat.le_of_succ_le_succ hde
      refine SX.seq (SX.set (s := .dat (.list [.int ((lvN wd (rho kvs) a : Nat) : Int)])) ((EX.lc (xs := [a]) (emb := fun x => Sl.dat x.d) (IT.tup1 (EX.var rfl) rfl) TgOk.name (fun _ => true) (fun x => .int ((lvN wd (rho kvs) x : Nat) : Int)) (by simp) fun x hx D ds => GX.name ⟨⟨rfl, rfl, rfl, rfl⟩, (TX.test (EX.notInDT (ks := numOps) (w0 "turned" _ _ rfl) (l3 _) (.inl rfl))).cast (by decide +kernel), fun _ => by
        rw [List.mem_singleton.mp hx]
        exact rc a _ _ _ _ he hda (EX.var rfl) (EX.var rfl) (EX.var rfl)⟩).dat rfl) ?_)
      refine SX.seq (SX.ifS (b := false) ((TX.test (EX.inDT (ks := numOps) (w0 "turned" _ _ rfl) (l3 _) (.inl rfl))).cast (by decide +kernel)) (fun z => nomatch z) fun _ => SX.next ?_)
      refine SX.seq (SX.ifS (b := true) ((TX.test (EX.eqS (w0 "turned" _ _ rfl) (EX.str _))).cast (by decide)) (fun _ => ?_) fun z => nomatch z)
      refine SX.ret ((EX.i0 (EX.i0 (EX.var rfl) (EX.int 1)) (EX.ixL (d := .int ((lvN wd (rho kvs) a : Nat) : Int)) (EX.var rfl) (EX.int 0) (atI_nat (j := 0) rfl))).dat (congrArg PyData.int ?_)) ⟨rfl, rfl, rfl⟩
      show (2 : Int) ^ wd - 1 - (lvN wd (rho kvs) a : Nat) = ((2 ^ wd - 1 - lvN wd (rho kvs) a : Nat) : Int)
      have := hl a he
      omega
    | times i a =>
      have hda := Nat.le_of_succ_le_succ hde
      refine SX.seq (SX.set (s := .dat (.list [])) ((EX.lc (xs := [PyData.int i, a.d]) (emb := fun x => Sl.dat x) (IT.tup1 (EX.var rfl) rfl) TgOk.name (fun _ => false) (fun x => x) (by simp) fun x hx D ds => GX.name ⟨⟨rfl, rfl, rfl, rfl⟩, (TX.test (EX.notInDT (ks := numOps) (w0 "times" _ _ rfl) (l3 _) (.inl rfl))).cast (by decide +kernel), fun z => nomatch z⟩).dat rfl) ?_)
      refine SX.seq (SX.ifS (b := true) ((TX.test (EX.inDT (ks := numOps) (w0 "times" _ _ rfl) (l3 _) (.inl rfl))).cast (by decide +kernel)) (fun _ => ?_) fun z => nomatch z)
      refine SX.seq (SX.set (rc a _ _ _ _ he.2 hda (EX.var rfl) (EX.ixQ (d := a.d) (EX.var rfl) (EX.int 2) (.inr rfl) (atI_nat (j := 2) rfl)) (EX.var rfl)) ?_)
      refine SX.seq (SX.ifS (b := false) ((TX.test (EX.eqS (w0 "times" _ _ rfl) (EX.str _))).cast (by decide)) (fun z => nomatch z) fun _ => SX.next ?_)
      have hi : i.natAbs < 2 ^ 14 := by have := he.1; omega
      refine SX.ret ((EX.mod (EX.intI (EX.iC (EX.var rfl) (EX.ifE (b := true) (s := .dat (.int i)) ((TX.test (EX.eqS (w0 "times" _ _ rfl) (EX.str _))).cast (by decide)) (fun _ => EX.ixQ (EX.var rfl) (EX.int 1) (.inr rfl) (atI_nat (j := 1) rfl)) fun z => nomatch z) (mulx_ok (small a he.2) hi (by decide)))) (EX.var rfl) pp).dat (congrArg PyData.int ?_)) ⟨rfl, rfl, rfl⟩
      exact (emod_nat _ wd).symm
    | up i a =>
      have hda := Nat.le_of_succ_le_succ hde
      refine SX.seq (SX.set (s := .dat (.list [])) ((EX.lc (xs := [PyData.int (i : Int), a.d]) (emb := fun x => Sl.dat x) (IT.tup1 (EX.var rfl) rfl) TgOk.name (fun _ => false) (fun x => x) (by simp) fun x hx D ds => GX.name ⟨⟨rfl, rfl, rfl, rfl⟩, (TX.test (EX.notInDT (ks := numOps) (w0 "up" _ _ rfl) (l3 _) (.inl rfl))).cast (by decide +kernel), fun z => nomatch z⟩).dat rfl) ?_)
      refine SX.seq (SX.ifS (b := true) ((TX.test (EX.inDT (ks := numOps) (w0 "up" _ _ rfl) (l3 _) (.inl rfl))).cast (by decide +kernel)) (fun _ => ?_) fun z => nomatch z)
      refine SX.seq (SX.set (rc a _ _ _ _ he.2 hda (EX.var rfl) (EX.ixQ (d := a.d) (EX.var rfl) (EX.int 2) (.inr rfl) (atI_nat (j := 2) rfl)) (EX.var rfl)) ?_)
      refine SX.seq (SX.ifS (b := false) ((TX.test (EX.eqS (w0 "up" _ _ rfl) (EX.str _))).cast (by decide)) (fun z => nomatch z) fun _ => SX.next ?_)
      have hi : ((2 : Int) ^ i).natAbs < 2 ^ (i + 1) := pow_abs i
      have hi2 := he.1
      refine SX.ret ((EX.mod (EX.intI (EX.iC (EX.var rfl) (EX.ifE (b := false) (s := .dat (.int (2 ^ i))) ((TX.test (EX.eqS (w0 "up" _ _ rfl) (EX.str _))).cast (by decide)) (fun z => nomatch z) fun _ => EX.callR (ds := [.int (i : Int)]) (EAX.cons (EX.ixQ (EX.var rfl) (EX.int 1) (.inr rfl) (atI_nat (j := 1) rfl)) EAX.nil) ⟨i, rfl, by omega, rfl⟩) (mulx_ok (small a he.2) hi (by omega)))) (EX.var rfl) pp).dat (congrArg PyData.int ?_)) ⟨rfl, rfl, rfl⟩
      show ((lvN wd (rho kvs) a : Nat) * 2 ^ i : Int) % 2 ^ wd = ((lvN wd (rho kvs) a * 2 ^ i % 2 ^ wd : Nat) : Int)
      rw [Int.natCast_emod, Int.natCast_mul, p2cast, p2cast]
    | down i a =>
      have hda := Nat.le_of_succ_le_succ hde
      refine SX.seq (SX.set (s := .dat (.list [])) ((EX.lc (xs := [PyData.int (i : Int), a.d]) (emb := fun x => Sl.dat x) (IT.tup1 (EX.var rfl) rfl) TgOk.name (fun _ => false) (fun x => x) (by simp) fun x hx D ds => GX.name ⟨⟨rfl, rfl, rfl, rfl⟩, (TX.test (EX.notInDT (ks := numOps) (w0 "down" _ _ rfl) (l3 _) (.inl rfl))).cast (by decide +kernel), fun z => nomatch z⟩).dat rfl) ?_)
      refine SX.seq (SX.ifS (b := true) ((TX.test (EX.inDT (ks := numOps) (w0 "down" _ _ rfl) (l3 _) (.inl rfl))).cast (by decide +kernel)) (fun _ => ?_) fun z => nomatch z)
      refine SX.seq (SX.set (rc a _ _ _ _ he.2 hda (EX.var rfl) (EX.ixQ (d := a.d) (EX.var rfl) (EX.int 2) (.inr rfl) (atI_nat (j := 2) rfl)) (EX.var rfl)) ?_)
      have hi2 := he.1
      refine SX.seq (SX.ifS (b := true) ((TX.test (EX.eqS (w0 "down" _ _ rfl) (EX.str _))).cast (by decide)) (fun _ => ?_) fun z => nomatch z)
      refine SX.ret ((EX.iC (EX.var rfl) (EX.callR (ds := [.int (i : Int)]) (EAX.cons (EX.ixQ (EX.var rfl) (EX.int 1) (.inr rfl) (atI_nat (j := 1) rfl)) EAX.nil) ⟨i, rfl, by omega, rfl⟩) (wide_div (p2pos i) (pow_abs i) (by omega) (by omega))).dat (congrArg PyData.int ?_)) ⟨rfl, rfl, rfl⟩
      show ((lvN wd (rho kvs) a : Nat) : Int) / 2 ^ i = ((lvN wd (rho kvs) a / 2 ^ i : Nat) : Int)
      rw [Int.natCast_ediv, p2cast]
    | bin o a b =>
      have hde : max a.depth b.depth ≤ n := Nat.le_of_succ_le_succ hde
      have la := hl a he.1
      have lb := hl b he.2
      cases o with
      | plus =>
        refine SX.seq (SX.set (s := .dat (.list [.int ((lvN wd (rho kvs) a : Nat) : Int), .int ((lvN wd (rho kvs) b : Nat) : Int)])) ((EX.lc (xs := [a, b]) (emb := fun x => Sl.dat x.d) (IT.tup1 (EX.var rfl) rfl) TgOk.name (fun _ => true) (fun x => .int ((lvN wd (rho kvs) x : Nat) : Int)) (by simp) fun x hx D ds => GX.name ⟨⟨rfl, rfl, rfl, rfl⟩, (TX.test (EX.notInDT (ks := numOps) (w0 "plus" _ _ rfl) (l3 _) (.inl rfl))).cast (by decide +kernel), fun _ => by
          have hx2 : x.ok ns ∧ x.depth ≤ n := by
            simp only [List.mem_cons, List.not_mem_nil, or_false] at hx
            rcases hx with rfl | rfl
            · exact ⟨he.1, by omega⟩
            · exact ⟨he.2, by omega⟩
          exact rc x _ _ _ _ hx2.1 hx2.2 (EX.var rfl) (EX.var rfl) (EX.var rfl)⟩).dat rfl) ?_)
        refine SX.seq (SX.ifS (b := false) ((TX.test (EX.inDT (ks := numOps) (w0 "plus" _ _ rfl) (l3 _) (.inl rfl))).cast (by decide +kernel)) (fun z => nomatch z) fun _ => SX.next ?_)
        refine SX.seq (SX.ifS (b := false) ((TX.test (EX.eqS (w0 "plus" _ _ rfl) (EX.str _))).cast (by decide)) (fun z => nomatch z) fun _ => SX.next ?_)
        refine SX.seq (SX.ifS (b := true) ((TX.test (EX.inDT (ks := addOps) (w0 "plus" _ _ rfl) (l2 _) (.inl rfl))).cast (by decide +kernel)) (fun _ => ?_) fun z => nomatch z)
        refine SX.ret ((EX.mod (EX.intI (EX.i0 (EX.ixL (d := .int ((lvN wd (rho kvs) a : Nat) : Int)) (EX.var rfl) (EX.int 0) (atI_nat (j := 0) rfl)) (EX.ifE (b := true) (s := .dat (.int ((lvN wd (rho kvs) b : Nat) : Int))) ((TX.test (EX.eqS (w0 "plus" _ _ rfl) (EX.str _))).cast (by decide)) (fun _ => (EX.ixL (d := .int ((lvN wd (rho kvs) b : Nat) : Int)) (EX.var rfl) (EX.int 1) (atI_nat (j := 1) rfl))) fun z => nomatch z))) (EX.var rfl) pp).dat (congrArg PyData.int ?_)) ⟨rfl, rfl, rfl⟩
        show ((lvN wd (rho kvs) a : Nat) + (lvN wd (rho kvs) b : Nat) : Int) % 2 ^ wd = (((lvN wd (rho kvs) a + lvN wd (rho kvs) b) % 2 ^ wd : Nat) : Int)
        rw [Int.natCast_emod, Int.natCast_add, p2cast]
      | minus =>
        refine SX.seq (SX.set (s := .dat (.list [.int ((lvN wd (rho kvs) a : Nat) : Int), .int ((lvN wd (rho kvs) b : Nat) : Int)])) ((EX.lc (xs := [a, b]) (emb := fun x => Sl.dat x.d) (IT.tup1 (EX.var rfl) rfl) TgOk.name (fun _ => true) (fun x => .int ((lvN wd (rho kvs) x : Nat) : Int)) (by simp) fun x hx D ds => GX.name ⟨⟨rfl, rfl, rfl, rfl⟩, (TX.test (EX.notInDT (ks := numOps) (w0 "minus" _ _ rfl) (l3 _) (.inl rfl))).cast (by decide +kernel), fun _ => by
          have hx2 : x.ok ns ∧ x.depth ≤ n := by
            simp only [List.mem_cons, List.not_mem_nil, or_false] at hx
            rcases hx with rfl | rfl
            · exact ⟨he.1, by omega⟩
            · exact ⟨he.2, by omega⟩
          exact rc x _ _ _ _ hx2.1 hx2.2 (EX.var rfl) (EX.var rfl) (EX.var rfl)⟩).dat rfl) ?_)
        refine SX.seq (SX.ifS (b := false) ((TX.test (EX.inDT (ks := numOps) (w0 "minus" _ _ rfl) (l3 _) (.inl rfl))).cast (by decide +kernel)) (fun z => nomatch z) fun _ => SX.next ?_)
        refine SX.seq (SX.ifS (b := false) ((TX.test (EX.eqS (w0 "minus" _ _ rfl) (EX.str _))).cast (by decide)) (fun z => nomatch z) fun _ => SX.next ?_)
        refine SX.seq (SX.ifS (b := true) ((TX.test (EX.inDT (ks := addOps) (w0 "minus" _ _ rfl) (l2 _) (.inl rfl))).cast (by decide +kernel)) (fun _ => ?_) fun z => nomatch z)
        refine SX.ret ((EX.mod (EX.intI (EX.i0 (EX.ixL (d := .int ((lvN wd (rho kvs) a : Nat) : Int)) (EX.var rfl) (EX.int 0) (atI_nat (j := 0) rfl)) (EX.ifE (b := false) (s := .dat (.int (0 - ((lvN wd (rho kvs) b : Nat) : Int)))) ((TX.test (EX.eqS (w0 "minus" _ _ rfl) (EX.str _))).cast (by decide)) (fun z => nomatch z) fun _ => EX.i0 (EX.int 0) (EX.ixL (d := .int ((lvN wd (rho kvs) b : Nat) : Int)) (EX.var rfl) (EX.int 1) (atI_nat (j := 1) rfl))))) (EX.var rfl) pp).dat (congrArg PyData.int ?_)) ⟨rfl, rfl, rfl⟩
        show ((lvN wd (rho kvs) a : Nat) + (0 - (lvN wd (rho kvs) b : Nat)) : Int) % 2 ^ wd = (((((lvN wd (rho kvs) a : Nat) : Int) - (lvN wd (rho kvs) b : Nat)) % 2 ^ wd).toNat : Int)
        rw [emod_nat]
        congr 1
        omega
      | both =>
        refine SX.seq (SX.set (s := .dat (.list [.int ((lvN wd (rho kvs) a : Nat) : Int), .int ((lvN wd (rho kvs) b : Nat) : Int)])) ((EX.lc (xs := [a, b]) (emb := fun x => Sl.dat x.d) (IT.tup1 (EX.var rfl) rfl) TgOk.name (fun _ => true) (fun x => .int ((lvN wd (rho kvs) x : Nat) : Int)) (by simp) fun x hx D ds => GX.name ⟨⟨rfl, rfl, rfl, rfl⟩, (TX.test (EX.notInDT (ks := numOps) (w0 "both" _ _ rfl) (l3 _) (.inl rfl))).cast (by decide +kernel), fun _ => by
          have hx2 : x.ok ns ∧ x.depth ≤ n := by
            simp only [List.mem_cons, List.not_mem_nil, or_false] at hx
            rcases hx with rfl | rfl
            · exact ⟨he.1, by omega⟩
            · exact ⟨he.2, by omega⟩
          exact rc x _ _ _ _ hx2.1 hx2.2 (EX.var rfl) (EX.var rfl) (EX.var rfl)⟩).dat rfl) ?_)
        refine SX.seq (SX.ifS (b := false) ((TX.test (EX.inDT (ks := numOps) (w0 "both" _ _ rfl) (l3 _) (.inl rfl))).cast (by decide +kernel)) (fun z => nomatch z) fun _ => SX.next ?_)
        refine SX.seq (SX.ifS (b := false) ((TX.test (EX.eqS (w0 "both" _ _ rfl) (EX.str _))).cast (by decide)) (fun z => nomatch z) fun _ => SX.next ?_)
        refine SX.seq (SX.ifS (b := false) ((TX.test (EX.inDT (ks := addOps) (w0 "both" _ _ rfl) (l2 _) (.inl rfl))).cast (by decide +kernel)) (fun z => nomatch z) fun _ => SX.next ?_)
        have lf : Op2.f .both (lvN wd (rho kvs) a) (lvN wd (rho kvs) b) < 2 ^ wd := hl (.bin .both a b) he
        refine SX.seq (SX.set (EX.int 0) (SX.seq (SX.for_ (IT.range1 (EAX.cons (EX.var rfl) EAX.nil) (by omega)) (fun i g' => ∃ s7 s8 s9, g' = ⟨[.dat (.int (wd : Int)), .dat (Et.bin .both a b).d, .dat (dictD kvs), .dat (.int (2 ^ wd)), .dat (.list [.int ((lvN wd (rho kvs) a : Nat) : Int), .int ((lvN wd (rho kvs) b : Nat) : Int)]), .no, .dat (.int ((Op2.f .both (lvN wd (rho kvs) a) (lvN wd (rho kvs) b) % 2 ^ i : Nat) : Int)), s7, s8, s9, .no], [], [], hd, []⟩) ⟨.no, .no, .no, ?_⟩ ?_ ?_)))
        · rw [Nat.pow_zero, Nat.mod_one]; rfl
        · rintro i s _ hs ⟨s7, s8, s9, rfl⟩
          have hi := (List.getElem?_eq_some_iff.mp hs).1
          unfold rangeS at hs hi
          rw [List.length_map, List.length_range] at hi
          obtain ⟨i', hi', rfl⟩ := getElem?_map_some hs
          rw [List.getElem?_range hi] at hi'
          cases hi'
          rw [Int.zero_add]
          refine GX.name (SX.seq (SX.set (EX.i0 (EX.callR (ds := [.int ((lvN wd (rho kvs) a : Nat) : Int), .int (i : Int)]) (EAX.cons (EX.ixL (d := .int ((lvN wd (rho kvs) a : Nat) : Int)) (EX.var rfl) (EX.int 0) (atI_nat (j := 0) rfl)) (EAX.cons (EX.var rfl) EAX.nil)) ⟨_, i, rfl, by omega, rfl⟩) (EX.callR (ds := [.int ((lvN wd (rho kvs) b : Nat) : Int), .int (i : Int)]) (EAX.cons (EX.ixL (d := .int ((lvN wd (rho kvs) b : Nat) : Int)) (EX.var rfl) (EX.int 1) (atI_nat (j := 1) rfl)) (EAX.cons (EX.var rfl) EAX.nil)) ⟨_, i, rfl, by omega, rfl⟩)) ?_))
          refine SX.seq (SX.set (s := .dat (.list ((Op2.wants .both).map .int))) (EX.ixL (ds := [.list [.int 2], .list [.int 1, .int 2], .list [.int 1]]) (i := ((0 : Nat) : Int)) (EX.lst (EDs.ea (.cons (EX.lst (ds := [.int 2]) (EDs.ea (.cons (EX.int 2) .nil))) (.cons (EX.lst (ds := [.int 1, .int 2]) (EDs.ea (.cons (EX.int 1) (.cons (EX.int 2) .nil)))) (.cons (EX.lst (ds := [.int 1]) (EDs.ea (.cons (EX.int 1) .nil))) .nil))))) (EX.indexT (ds := [.str "both", .str "either", .str "unlike"]) (j := 0) (z := .str "both") (EX.lst (EDs.ea (.cons (EX.str _) (.cons (EX.str _) (.cons (EX.str _) .nil))))) (w0 "both" _ _ rfl) (by decide +kernel) (by decide +kernel) rfl (by decide +kernel) (by intro m z hm; exact absurd hm (Nat.not_lt_zero _))) (atI_nat (j := 0) rfl)) ?_)
          refine SX.set ((EX.i0 (EX.var rfl) (EX.iC (EX.callR (ds := [.int (i : Int)]) (EAX.cons (EX.var rfl) EAX.nil) ⟨i, rfl, by omega, rfl⟩) (EX.intB (EX.inDI (ks := Op2.wants .both) (EX.var rfl) (EX.var rfl))) (mulx_ok (pow_abs i) (b := 3) (by split <;> decide) (by omega)))).dat (congrArg PyData.int ?_)) ⟨_, _, _, rfl⟩
          · rw [bits_step .both (by simp) _ _ i, Int.natCast_add, Int.natCast_mul, p2cast]
            split <;> rfl
        · rintro _ ⟨s7, s8, s9, rfl⟩
          unfold rangeS
          rw [List.length_map, List.length_range, Nat.mod_eq_of_lt lf]
          exact SX.ret (EX.var rfl) ⟨rfl, rfl, rfl⟩
      | either =>
        refine SX.seq (SX.set (s := .dat (.list [.int ((lvN wd (rho kvs) a : Nat) : Int), .int ((lvN wd (rho kvs) b : Nat) : Int)])) ((EX.lc (xs := [a, b]) (emb := fun x => Sl.dat x.d) (IT.tup1 (EX.var rfl) rfl) TgOk.name (fun _ => true) (fun x => .int ((lvN wd (rho kvs) x : Nat) : Int)) (by simp) fun x hx D ds => GX.name ⟨⟨rfl, rfl, rfl, rfl⟩, (TX.test (EX.notInDT (ks := numOps) (w0 "either" _ _ rfl) (l3 _) (.inl rfl))).cast (by decide +kernel), fun _ => by
          have hx2 : x.ok ns ∧ x.depth ≤ n := by
            simp only [List.mem_cons, List.not_mem_nil, or_false] at hx
            rcases hx with rfl | rfl
            · exact ⟨he.1, by omega⟩
            · exact ⟨he.2, by omega⟩
          exact rc x _ _ _ _ hx2.1 hx2.2 (EX.var rfl) (EX.var rfl) (EX.var rfl)⟩).dat rfl) ?_)
        refine SX.seq (SX.ifS (b := false) ((TX.test (EX.inDT (ks := numOps) (w0 "either" _ _ rfl) (l3 _) (.inl rfl))).cast (by decide +kernel)) (fun z => nomatch z) fun _ => SX.next ?_)
        refine SX.seq (SX.ifS (b := false) ((TX.test (EX.eqS (w0 "either" _ _ rfl) (EX.str _))).cast (by decide)) (fun z => nomatch z) fun _ => SX.next ?_)
        refine SX.seq (SX.ifS (b := false) ((TX.test (EX.inDT (ks := addOps) (w0 "either" _ _ rfl) (l2 _) (.inl rfl))).cast (by decide +kernel)) (fun z => nomatch z) fun _ => SX.next ?_)
        have lf : Op2.f .either (lvN wd (rho kvs) a) (lvN wd (rho kvs) b) < 2 ^ wd := hl (.bin .either a b) he
        refine SX.seq (SX.set (EX.int 0) (SX.seq (SX.for_ (IT.range1 (EAX.cons (EX.var rfl) EAX.nil) (by omega)) (fun i g' => ∃ s7 s8 s9, g' = ⟨[.dat (.int (wd : Int)), .dat (Et.bin .either a b).d, .dat (dictD kvs), .dat (.int (2 ^ wd)), .dat (.list [.int ((lvN wd (rho kvs) a : Nat) : Int), .int ((lvN wd (rho kvs) b : Nat) : Int)]), .no, .dat (.int ((Op2.f .either (lvN wd (rho kvs) a) (lvN wd (rho kvs) b) % 2 ^ i : Nat) : Int)), s7, s8, s9, .no], [], [], hd, []⟩) ⟨.no, .no, .no, ?_⟩ ?_ ?_)))
        · rw [Nat.pow_zero, Nat.mod_one]; rfl
        · rintro i s _ hs ⟨s7, s8, s9, rfl⟩
          have hi := (List.getElem?_eq_some_iff.mp hs).1
          unfold rangeS at hs hi
          rw [List.length_map, List.length_range] at hi
          obtain ⟨i', hi', rfl⟩ := getElem?_map_some hs
          rw [List.getElem?_range hi] at hi'
          cases hi'
          rw [Int.zero_add]
          refine GX.name (SX.seq (SX.set (EX.i0 (EX.callR (ds := [.int ((lvN wd (rho kvs) a : Nat) : Int), .int (i : Int)]) (EAX.cons (EX.ixL (d := .int ((lvN wd (rho kvs) a : Nat) : Int)) (EX.var rfl) (EX.int 0) (atI_nat (j := 0) rfl)) (EAX.cons (EX.var rfl) EAX.nil)) ⟨_, i, rfl, by omega, rfl⟩) (EX.callR (ds := [.int ((lvN wd (rho kvs) b : Nat) : Int), .int (i : Int)]) (EAX.cons (EX.ixL (d := .int ((lvN wd (rho kvs) b : Nat) : Int)) (EX.var rfl) (EX.int 1) (atI_nat (j := 1) rfl)) (EAX.cons (EX.var rfl) EAX.nil)) ⟨_, i, rfl, by omega, rfl⟩)) ?_))
          refine SX.seq (SX.set (s := .dat (.list ((Op2.wants .either).map .int))) (EX.ixL (ds := [.list [.int 2], .list [.int 1, .int 2], .list [.int 1]]) (i := ((1 : Nat) : Int)) (EX.lst (EDs.ea (.cons (EX.lst (ds := [.int 2]) (EDs.ea (.cons (EX.int 2) .nil))) (.cons (EX.lst (ds := [.int 1, .int 2]) (EDs.ea (.cons (EX.int 1) (.cons (EX.int 2) .nil)))) (.cons (EX.lst (ds := [.int 1]) (EDs.ea (.cons (EX.int 1) .nil))) .nil))))) (EX.indexT (ds := [.str "both", .str "either", .str "unlike"]) (j := 1) (z := .str "either") (EX.lst (EDs.ea (.cons (EX.str _) (.cons (EX.str _) (.cons (EX.str _) .nil))))) (w0 "either" _ _ rfl) (by decide +kernel) (by decide +kernel) rfl (by decide +kernel) (by intro m z hm hz; match m, hm with | 0, _ => (cases hz; decide +kernel))) (atI_nat (j := 1) rfl)) ?_)
          refine SX.set ((EX.i0 (EX.var rfl) (EX.iC (EX.callR (ds := [.int (i : Int)]) (EAX.cons (EX.var rfl) EAX.nil) ⟨i, rfl, by omega, rfl⟩) (EX.intB (EX.inDI (ks := Op2.wants .either) (EX.var rfl) (EX.var rfl))) (mulx_ok (pow_abs i) (b := 3) (by split <;> decide) (by omega)))).dat (congrArg PyData.int ?_)) ⟨_, _, _, rfl⟩
          · rw [bits_step .either (by simp) _ _ i, Int.natCast_add, Int.natCast_mul, p2cast]
            split <;> rfl
        · rintro _ ⟨s7, s8, s9, rfl⟩
          unfold rangeS
          rw [List.length_map, List.length_range, Nat.mod_eq_of_lt lf]
          exact SX.ret (EX.var rfl) ⟨rfl, rfl, rfl⟩
      | unlike =>
        refine SX.seq (SX.set (s := .dat (.list [.int ((lvN wd (rho kvs) a : Nat) : Int), .int ((lvN wd (rho kvs) b : Nat) : Int)])) ((EX.lc (xs := [a, b]) (emb := fun x => Sl.dat x.d) (IT.tup1 (EX.var rfl) rfl) TgOk.name (fun _ => true) (fun x => .int ((lvN wd (rho kvs) x : Nat) : Int)) (by simp) fun x hx D ds => GX.name ⟨⟨rfl, rfl, rfl, rfl⟩, (TX.test (EX.notInDT (ks := numOps) (w0 "unlike" _ _ rfl) (l3 _) (.inl rfl))).cast (by decide +kernel), fun _ => by
          have hx2 : x.ok ns ∧ x.depth ≤ n := by
            simp only [List.mem_cons, List.not_mem_nil, or_false] at hx
            rcases hx with rfl | rfl
            · exact ⟨he.1, by omega⟩
            · exact ⟨he.2, by omega⟩
          exact rc x _ _ _ _ hx2.1 hx2.2 (EX.var rfl) (EX.var rfl) (EX.var rfl)⟩).dat rfl) ?_)
        refine SX.seq (SX.ifS (b := false) ((TX.test (EX.inDT (ks := numOps) (w0 "unlike" _ _ rfl) (l3 _) (.inl rfl))).cast (by decide +kernel)) (fun z => nomatch z) fun _ => SX.next ?_)
        refine SX.seq (SX.ifS (b := false) ((TX.test (EX.eqS (w0 "unlike" _ _ rfl) (EX.str _))).cast (by decide)) (fun z => nomatch z) fun _ => SX.next ?_)
        refine SX.seq (SX.ifS (b := false) ((TX.test (EX.inDT (ks := addOps) (w0 "unlike" _ _ rfl) (l2 _) (.inl rfl))).cast (by decide +kernel)) (fun z => nomatch z) fun _ => SX.next ?_)
        have lf : Op2.f .unlike (lvN wd (rho kvs) a) (lvN wd (rho kvs) b) < 2 ^ wd := hl (.bin .unlike a b) he
        refine SX.seq (SX.set (EX.int 0) (SX.seq (SX.for_ (IT.range1 (EAX.cons (EX.var rfl) EAX.nil) (by omega)) (fun i g' => ∃ s7 s8 s9, g' = ⟨[.dat (.int (wd : Int)), .dat (Et.bin .unlike a b).d, .dat (dictD kvs), .dat (.int (2 ^ wd)), .dat (.list [.int ((lvN wd (rho kvs) a : Nat) : Int), .int ((lvN wd (rho kvs) b : Nat) : Int)]), .no, .dat (.int ((Op2.f .unlike (lvN wd (rho kvs) a) (lvN wd (rho kvs) b) % 2 ^ i : Nat) : Int)), s7, s8, s9, .no], [], [], hd, []⟩) ⟨.no, .no, .no, ?_⟩ ?_ ?_)))
        · rw [Nat.pow_zero, Nat.mod_one]; rfl
        · rintro i s _ hs ⟨s7, s8, s9, rfl⟩
          have hi := (List.getElem?_eq_some_iff.mp hs).1
          unfold rangeS at hs hi
          rw [List.length_map, List.length_range] at hi
          obtain ⟨i', hi', rfl⟩ := getElem?_map_some hs
          rw [List.getElem?_range hi] at hi'
          cases hi'
          rw [Int.zero_add]
          refine GX.name (SX.seq (SX.set (EX.i0 (EX.callR (ds := [.int ((lvN wd (rho kvs) a : Nat) : Int), .int (i : Int)]) (EAX.cons (EX.ixL (d := .int ((lvN wd (rho kvs) a : Nat) : Int)) (EX.var rfl) (EX.int 0) (atI_nat (j := 0) rfl)) (EAX.cons (EX.var rfl) EAX.nil)) ⟨_, i, rfl, by omega, rfl⟩) (EX.callR (ds := [.int ((lvN wd (rho kvs) b : Nat) : Int), .int (i : Int)]) (EAX.cons (EX.ixL (d := .int ((lvN wd (rho kvs) b : Nat) : Int)) (EX.var rfl) (EX.int 1) (atI_nat (j := 1) rfl)) (EAX.cons (EX.var rfl) EAX.nil)) ⟨_, i, rfl, by omega, rfl⟩)) ?_))
          refine SX.seq (SX.set (s := .dat (.list ((Op2.wants .unlike).map .int))) (EX.ixL (ds := [.list [.int 2], .list [.int 1, .int 2], .list [.int 1]]) (i := ((2 : Nat) : Int)) (EX.lst (EDs.ea (.cons (EX.lst (ds := [.int 2]) (EDs.ea (.cons (EX.int 2) .nil))) (.cons (EX.lst (ds := [.int 1, .int 2]) (EDs.ea (.cons (EX.int 1) (.cons (EX.int 2) .nil)))) (.cons (EX.lst (ds := [.int 1]) (EDs.ea (.cons (EX.int 1) .nil))) .nil))))) (EX.indexT (ds := [.str "both", .str "either", .str "unlike"]) (j := 2) (z := .str "unlike") (EX.lst (EDs.ea (.cons (EX.str _) (.cons (EX.str _) (.cons (EX.str _) .nil))))) (w0 "unlike" _ _ rfl) (by decide +kernel) (by decide +kernel) rfl (by decide +kernel) (by intro m z hm hz; match m, hm with | 0, _ => (cases hz; decide +kernel) | 1, _ => (cases hz; decide +kernel))) (atI_nat (j := 2) rfl)) ?_)
          refine SX.set ((EX.i0 (EX.var rfl) (EX.iC (EX.callR (ds := [.int (i : Int)]) (EAX.cons (EX.var rfl) EAX.nil) ⟨i, rfl, by omega, rfl⟩) (EX.intB (EX.inDI (ks := Op2.wants .unlike) (EX.var rfl) (EX.var rfl))) (mulx_ok (pow_abs i) (b := 3) (by split <;> decide) (by omega)))).dat (congrArg PyData.int ?_)) ⟨_, _, _, rfl⟩
          · rw [bits_step .unlike (by simp) _ _ i, Int.natCast_add, Int.natCast_mul, p2cast]
            split <;> rfl
        · rintro _ ⟨s7, s8, s9, rfl⟩
          unfold rangeS
          rw [List.length_map, List.length_range, Nat.mod_eq_of_lt lf]
          exact SX.ret (EX.var rfl) ⟨rfl, rfl, rfl⟩
theorem neverR {k : Nat} {f : Addr} {fd : FuncData} {ps : List Str} {R : List PyData → PyData → Prop} (h : ∀ ds r, ¬ R ds r) : FnG P w K mg base CX0 k f fd ps (spR R) :=
  ⟨fun vs H Q E q => by obtain ⟨ds, r, l, _, _, _, z, _⟩ := q; exact absurd z (h _ _), fun A outer s H args us vs Q E _ _ _ _ _ q => by obtain ⟨ds, r, l, _, _, _, z, _⟩ := q; exact absurd z (h _ _)⟩
theorem ok_law_value (T : Tx w K mg) : ∀ n : Nat, FnG P w K mg base CX0 (n + 4) T.a_law_value T.d_law_value ["_law_width", "_law_told", "_law_words_here"] (spVal n)
  | 0 => value_one T 0 3 (by omega) (neverR fun _ _ z => z)
  | n + 1 => value_one T (n + 1) (n + 4) (by omega) (ok_law_value T n)
end

end K07

set_option Elab.async false
set_option linter.all false
set_option maxRecDepth 100000
set_option maxHeartbeats 4000000
namespace K07
open PySem PySem.Spec PyProof.Rows L2 Hw

section
variable {P : Program} {w : World} {K : PySem.W.Frag} {mg : Str → Option Value} {base : Heap}
theorem ok_rnd (T : Tx w K mg) : FnG P w K mg base CX0 2 T.a_law_random T.d_law_random ["_law_generator_here", "_law_bound"] spRnd :=
  (ok_law_random T).weak fun vs H Q E h => by
    obtain ⟨a, b, n, e, ⟨s, t, c, hg, s0, s1, t0, t1, c0, c1⟩, b0, b1, q⟩ := h
    have e2 : (2 : Int) ^ 2000 = ((2 ^ 2000 : Nat) : Int) := by rw [Int.natCast_pow]; rfl
    refine ⟨a, b, s, t, c, c, e, hg, ⟨s0, s1, t0, t1, c0, Int.le_refl _⟩, by omega, by omega, by rw [e2]; exact Int.ofNat_lt.mpr b1, fun r s' c' r0 r1 ok => ?_⟩
    obtain ⟨r, rfl⟩ := Int.eq_ofNat_of_zero_le r0
    refine q r _ (by omega) (fun x o hx h => by rw [upd_ne hx]; exact h) ⟨s', t, c', upd_same, ok.s0, ok.s1, ok.t0, ok.t1, ok.c0, ?_⟩
    have := ok.c1
    omega
def opL : List Str := ["plus", "minus", "both", "either", "unlike", "turned", "times", "up", "down"]
/-- draws that an expression takes -/
def cE (n : Nat) : Nat := 8 * 2 ^ n
theorem cE_succ (n : Nat) : cE (n + 1) = cE n + cE n := by unfold cE; rw [Nat.pow_succ]; omega
theorem cE_pos (n : Nat) : 8 ≤ cE n := by unfold cE; have := Nat.pow_pos (n := n) (show 0 < 2 by decide); omega
def spExpr (n : Nat) : Sp := spM fun ss ow gn K' => ∃ (a : Addr) (ns : List Str) (N : Nat), ss = [.con (.ref a), .dat (.list (ns.map .str)), .dat (.int (n : Int))] ∧ gn = [(a, N + cE n - 4)] ∧ Nn ns ∧ ns.length ≤ 10 ∧ ∀ e : Et, e.tk ns → e.depth ≤ n → K' (.dat e.d) ow [(a, N)]
theorem names_shaped {ns : List Str} (hn : Nn ns) : SeqAt.shaped (.list (ns.map .str)) = true := shaped_list fun x hx => by
  obtain ⟨z, hz, rfl⟩ := List.mem_map.mp hx
  have h := (hn z hz).2.2
  exact ⟨h.1, by simp only [PyData.depth]; omega, by simp only [PyData.bulk]; omega⟩
theorem big_of {b : Nat} (h : b ≤ 1000) : b < 2 ^ 2000 := by
  have : (1000 : Nat) < 2 ^ 2000 := by decide +kernel
  omega
theorem expr_one (T : Tx w K mg) (n j : Nat) (hj : 2 ≤ j) (G_law_expression : FnG P w K mg base CX0 j T.a_law_expression T.d_law_expression ["_law_generator_here", "_law_names", "_law_deep"] (match n with | 0 => spM fun _ _ _ _ => False | n + 1 => spExpr n)) : FnG P w K mg base CX0 (j + 1) T.a_law_expression T.d_law_expression ["_law_generator_here", "_law_names", "_law_deep"] (spExpr n) := by
  have G_law_random := ok_rnd (P := P) (w := w) (base := base) T
  refine bodyM T.F_law_expression sc_law_expression (fun ss ow gn K' h => by obtain ⟨a, ns, N, rfl, _⟩ := h; rfl) fun cdv A outer s H E gd hr => ⟨_, (pss_cons (ps_set (i := 3) sc_law_expression.nd rfl (Or.inl rfl) (pe_g G_law_random gd (hr.mono (by omega)) (by rfl) T.g_law_random T.F_law_random.kp T.b_law_random .nil pass0 (pa_cons (pv 0) (pa_cons pe_int pa_nil))))
      (pss_cons (ps_if (PW.pt (pw_or (pt_cmpR op_eq (pv 2) pe_int (nomark _)) (pw_or1 (pt_cmpR op_eq (pv 3) pe_int (nomark _))))) (pss_one (ps_ret (pe_ifExp (PW.pt (pw_and (pt_cmpR (op_neT hr.units) (pv 1) (pe_lst pa_nil) (nomark _)) (pw_and1 (pt_cmpR op_gt (pe_g G_law_random gd (hr.mono (by omega)) (by rfl) T.g_law_random T.F_law_random.kp T.b_law_random .nil pass0 (pa_cons (pv 0) (pa_cons pe_int pa_nil))) pe_int (nomark _))))) (pe_ix (ix_listK (K := K) rfl) (pv 1) (pe_g G_law_random gd (hr.mono (by omega)) (by rfl) T.g_law_random T.F_law_random.kp T.b_law_random .nil pass0 (pa_cons (pv 0) (pa_cons (pe_callB (call_lenK (K := K) rfl) (by rfl) T.z_len (by decide +kernel) (pa_cons (pv 1) pa_nil)) pa_nil))) (fun _ _ => rfl)) (pe_op op_sub (pe_g G_law_random gd (hr.mono (by omega)) (by rfl) T.g_law_random T.F_law_random.kp T.b_law_random .nil pass0 (pa_cons (pv 0) (pa_cons pe_int pa_nil))) pe_int)))) pss_nil)
      (pss_cons (ps_set (i := 4) sc_law_expression.nd rfl (Or.inl rfl) (pe_ix (ix_listK (K := K) rfl) (pe_lst (pa_cons pe_str (pa_cons pe_str (pa_cons pe_str (pa_cons pe_str (pa_cons pe_str (pa_cons pe_str (pa_cons pe_str (pa_cons pe_str (pa_cons pe_str pa_nil)))))))))) (pe_g G_law_random gd (hr.mono (by omega)) (by rfl) T.g_law_random T.F_law_random.kp T.b_law_random .nil pass0 (pa_cons (pv 0) (pa_cons pe_int pa_nil))) (fun _ _ => rfl)))
      (pss_cons (ps_if (pt_cmpR op_eq (pv 4) pe_str (nomark _)) (pss_one (ps_ret (pe_tup (pa_cons (pv 4) (pa_cons (pe_g G_law_expression gd (hr.mono (by omega)) (by rfl) T.g_law_expression T.F_law_expression.kp T.b_law_expression .nil pass0 (pa_cons (pv 0) (pa_cons (pv 1) (pa_cons (pe_op op_sub (pv 2) pe_int) pa_nil)))) pa_nil))))) pss_nil)
      (pss_cons (ps_if (pt_cmpR (op_inK (K := K) rfl) (pv 4) (pe_lst (pa_cons pe_str (pa_cons pe_str (pa_cons pe_str pa_nil)))) (by rfl)) (pss_cons (ps_set (i := 5) sc_law_expression.nd rfl (Or.inl rfl) (pe_ifExp (pt_cmpR op_eq (pv 4) pe_str (nomark _)) (pe_op op_sub (pe_g G_law_random gd (hr.mono (by omega)) (by rfl) T.g_law_random T.F_law_random.kp T.b_law_random .nil pass0 (pa_cons (pv 0) (pa_cons pe_int pa_nil))) pe_int) (pe_g G_law_random gd (hr.mono (by omega)) (by rfl) T.g_law_random T.F_law_random.kp T.b_law_random .nil pass0 (pa_cons (pv 0) (pa_cons pe_int pa_nil)))))
      (pss_one (ps_ret (pe_tup (pa_cons (pv 4) (pa_cons (pv 5) (pa_cons (pe_g G_law_expression gd (hr.mono (by omega)) (by rfl) T.g_law_expression T.F_law_expression.kp T.b_law_expression .nil pass0 (pa_cons (pv 0) (pa_cons (pv 1) (pa_cons (pe_op op_sub (pv 2) pe_int) pa_nil)))) pa_nil))))))) pss_nil)
      (pss_one (ps_ret (pe_tup (pa_cons (pv 4) (pa_cons (pe_g G_law_expression gd (hr.mono (by omega)) (by rfl) T.g_law_expression T.F_law_expression.kp T.b_law_expression .nil pass0 (pa_cons (pv 0) (pa_cons (pv 1) (pa_cons (pe_op op_sub (pv 2) pe_int) pa_nil)))) (pa_cons (pe_g G_law_expression gd (hr.mono (by omega)) (by rfl) T.g_law_expression T.F_law_expression.kp T.b_law_expression .nil pass0 (pa_cons (pv 0) (pa_cons (pv 1) (pa_cons (pe_op op_sub (pv 2) pe_int) pa_nil)))) pa_nil))))))))))), ?_⟩
  rintro _ ow _ hd pw K' ⟨a, ns, N, rfl, rfl, hn, hl, kk⟩
  have c8 := cE_pos n
  obtain ⟨R, eR⟩ : ∃ R, N + cE n - 4 = R + 4 := ⟨N + cE n - 8, by omega⟩
  rw [eR]
  -- a draw
  refine SX.seq (SX.setM (EM.rnd (EA.cons ((EX.var rfl).em (EA.cons ((EX.int 5).em (EA.nil ⟨a, 5, R + 3, rfl, rfl, by decide, big_of (by decide), fun way hway => ?_⟩)))))))
  refine SX.seq (SX.ifS (b := decide ((n : Int) = 0) || decide ((way : Int) = 0)) (TX.or (TX.test (EX.eqI (EX.var rfl) (EX.int 0))) fun _ => TX.test (EX.eqI (EX.var rfl) (EX.int 0))) (fun _ => ?_) fun h0 => ?_)
  · -- a name or a number
    have hRN : N ≤ R := by omega
    refine SX.retM (EM.lessP N (EM.ifE (TM.and (TX.tm (b := !(PyData.list (ns.map .str)).eqv (.list [])) (TX.test (EX.neT (EX.var rfl) (EX.lst (ds := []) EAX.nil) (names_shaped hn) shaped_nil)) ?_))))
    rw [eqv_nil]
    cases ns with
    | nil =>
      rw [if_neg (by decide), if_neg (by decide)]
      refine EM.op (EM.rnd (EA.cons ((EX.var rfl).em (EA.cons ((EX.int 9).em (EA.nil ⟨a, 9, R + 2, rfl, rfl, by decide, big_of (by decide), fun r hr => ?_⟩))))))
      exact (EX.int 4).em ⟨_, c_i0, a, R + 2, rfl, by omega, kk (.int ((r : Int) - 4)) (by show ((r : Int) - 4).natAbs ≤ 9; omega) (Nat.zero_le _), rfl, rfl⟩
    | cons z zs =>
      rw [if_pos (by simp)]
      refine TM.test (EM.op (EM.rnd (EA.cons ((EX.var rfl).em (EA.cons ((EX.int 4).em (EA.nil ⟨a, 4, R + 2, rfl, rfl, by decide, big_of (by decide), fun r hr => ?_⟩)))))))
      refine (EX.int 0).em ⟨_, c_b0, _, rfl, ?_⟩
      cases hq : decide ((0 : Int) < (r : Int)) with
      | true =>
        rw [if_pos rfl]
        refine EM.op ((EX.var rfl).em (EM.rnd (EA.cons ((EX.var rfl).em (EA.cons ((EX.lenL (EX.var rfl)).em (EA.nil ⟨a, (z :: zs).length, R + 1, by rw [List.length_map], rfl, by simp, big_of (by omega), fun i hi => ?_⟩)))))))
        obtain ⟨x, hx⟩ : ∃ x, (z :: zs)[i]? = some x := ⟨_, List.getElem?_eq_getElem hi⟩
        exact ⟨_, c_ixL (atI_nat (j := i) (v := PyData.str x) (by rw [List.getElem?_map, hx]; rfl)), a, R + 1, rfl, by omega, kk (.nm x) (List.mem_of_getElem? hx) (Nat.zero_le _), rfl, rfl⟩
      | false =>
        rw [if_neg (by decide)]
        refine EM.op (EM.rnd (EA.cons ((EX.var rfl).em (EA.cons ((EX.int 9).em (EA.nil ⟨a, 9, R + 1, rfl, rfl, by decide, big_of (by decide), fun r hr => ?_⟩))))))
        exact (EX.int 4).em ⟨_, c_i0, a, R + 1, rfl, by omega, kk (.int ((r : Int) - 4)) (by show ((r : Int) - 4).natAbs ≤ 9; omega) (Nat.zero_le _), rfl, rfl⟩
  · refine SX.next ?_
    cases n with
    | zero => cases h0
    | succ n =>
      have cs := cE_succ n
      have c8n := cE_pos n
      have dn : ∀ (g : GS) (i : Nat), g.sl[i]? = some (.dat (.int (((n + 1 : Nat) : Int)))) → EX (tOp (rI0 fun i j => .int (i - j)) (tVar i) (tC (.int 1))) g (.dat (.int (n : Int))) := fun g i hg => (EX.i0 (EX.var hg) (EX.int 1)).dat (congrArg PyData.int (by omega))
      refine SX.seq (SX.setM (EM.op ((EX.em (s := .dat (.list (opL.map .str))) (EX.lst (EDs.ea (.cons (EX.str _) (.cons (EX.str _) (.cons (EX.str _) (.cons (EX.str _) (.cons (EX.str _) (.cons (EX.str _) (.cons (EX.str _) (.cons (EX.str _) (.cons (EX.str _) .nil)))))))))) (by decide)) (EM.rnd (EA.cons ((EX.var rfl).em (EA.cons ((EX.int 9).em (EA.nil ⟨a, 9, R + 2, rfl, rfl, by decide, big_of (by decide), fun i hi => ?_⟩))))))))))
      have h9 : i = 0 ∨ i = 1 ∨ i = 2 ∨ i = 3 ∨ i = 4 ∨ i = 5 ∨ i = 6 ∨ i = 7 ∨ i = 8 := by omega
      have gN : ∀ (M : Nat), [(a, M + cE n - 4)] = [(a, M + cE n - 4)] := fun _ => rfl
      rcases h9 with rfl | rfl | rfl | rfl | rfl | rfl | rfl | rfl | rfl
      · refine ⟨.dat (.str "plus"), c_ixL (atI_nat (j := 0) rfl), ?_⟩
        refine SX.seq (SX.ifS (b := false) ((TX.test (EX.eqS (EX.var rfl) (EX.str _))).cast (by decide)) (fun z => nomatch z) fun _ => SX.next ?_)
        refine SX.seq (SX.ifS (b := false) ((TX.test (EX.inDT (ks := numOps) (EX.var rfl) (EX.lst (ds := numOps.map .str) (EDs.ea (.cons (EX.str _) (.cons (EX.str _) (.cons (EX.str _) .nil)))) (by decide)) (.inl rfl))).cast (by decide +kernel)) (fun z => nomatch z) fun _ => SX.next ?_)
        refine SX.retM (EM.tup (EA.cons ((EX.var rfl).em (EA.cons (EM.less ((N + cE n - 4) + cE n - 4) rfl (by omega) (EM.callM (EA.cons ((EX.var rfl).em (EA.cons ((EX.var rfl).em (EA.cons ((dn _ 2 rfl).em (EA.nil ⟨a, ns, (N + cE n - 4), rfl, rfl, hn, hl, fun x hx1 hx2 => EA.cons (EM.less (N + cE n - 4) rfl (by omega) (EM.callM (EA.cons ((EX.var rfl).em (EA.cons ((EX.var rfl).em (EA.cons ((dn _ 2 rfl).em (EA.nil ⟨a, ns, N, rfl, rfl, hn, hl, fun y hy1 hy2 => EA.nil ⟨[.str "plus", x.d, y.d], rfl, by simp, kk (.bin .plus x y) ⟨hx1, hy1⟩ (Nat.succ_le_succ (Nat.max_le.mpr ⟨hx2, hy2⟩)), rfl, rfl⟩⟩)))))))))⟩)))))))))))))
      · refine ⟨.dat (.str "minus"), c_ixL (atI_nat (j := 1) rfl), ?_⟩
        refine SX.seq (SX.ifS (b := false) ((TX.test (EX.eqS (EX.var rfl) (EX.str _))).cast (by decide)) (fun z => nomatch z) fun _ => SX.next ?_)
        refine SX.seq (SX.ifS (b := false) ((TX.test (EX.inDT (ks := numOps) (EX.var rfl) (EX.lst (ds := numOps.map .str) (EDs.ea (.cons (EX.str _) (.cons (EX.str _) (.cons (EX.str _) .nil)))) (by decide)) (.inl rfl))).cast (by decide +kernel)) (fun z => nomatch z) fun _ => SX.next ?_)
        refine SX.retM (EM.tup (EA.cons ((EX.var rfl).em (EA.cons (EM.less ((N + cE n - 4) + cE n - 4) rfl (by omega) (EM.callM (EA.cons ((EX.var rfl).em (EA.cons ((EX.var rfl).em (EA.cons ((dn _ 2 rfl).em (EA.nil ⟨a, ns, (N + cE n - 4), rfl, rfl, hn, hl, fun x hx1 hx2 => EA.cons (EM.less (N + cE n - 4) rfl (by omega) (EM.callM (EA.cons ((EX.var rfl).em (EA.cons ((EX.var rfl).em (EA.cons ((dn _ 2 rfl).em (EA.nil ⟨a, ns, N, rfl, rfl, hn, hl, fun y hy1 hy2 => EA.nil ⟨[.str "minus", x.d, y.d], rfl, by simp, kk (.bin .minus x y) ⟨hx1, hy1⟩ (Nat.succ_le_succ (Nat.max_le.mpr ⟨hx2, hy2⟩)), rfl, rfl⟩⟩)))))))))⟩)))))))))))))
      · refine ⟨.dat (.str "both"), c_ixL (atI_nat (j := 2) rfl), ?_⟩
        refine SX.seq (SX.ifS (b := false) ((TX.test (EX.eqS (EX.var rfl) (EX.str _))).cast (by decide)) (fun z => nomatch z) fun _ => SX.next ?_)
        refine SX.seq (SX.ifS (b := false) ((TX.test (EX.inDT (ks := numOps) (EX.var rfl) (EX.lst (ds := numOps.map .str) (EDs.ea (.cons (EX.str _) (.cons (EX.str _) (.cons (EX.str _) .nil)))) (by decide)) (.inl rfl))).cast (by decide +kernel)) (fun z => nomatch z) fun _ => SX.next ?_)
        refine SX.retM (EM.tup (EA.cons ((EX.var rfl).em (EA.cons (EM.less ((N + cE n - 4) + cE n - 4) rfl (by omega) (EM.callM (EA.cons ((EX.var rfl).em (EA.cons ((EX.var rfl).em (EA.cons ((dn _ 2 rfl).em (EA.nil ⟨a, ns, (N + cE n - 4), rfl, rfl, hn, hl, fun x hx1 hx2 => EA.cons (EM.less (N + cE n - 4) rfl (by omega) (EM.callM (EA.cons ((EX.var rfl).em (EA.cons ((EX.var rfl).em (EA.cons ((dn _ 2 rfl).em (EA.nil ⟨a, ns, N, rfl, rfl, hn, hl, fun y hy1 hy2 => EA.nil ⟨[.str "both", x.d, y.d], rfl, by simp, kk (.bin .both x y) ⟨hx1, hy1⟩ (Nat.succ_le_succ (Nat.max_le.mpr ⟨hx2, hy2⟩)), rfl, rfl⟩⟩)))))))))⟩)))))))))))))
      · refine ⟨.dat (.str "either"), c_ixL (atI_nat (j := 3) rfl), ?_⟩
        refine SX.seq (SX.ifS (b := false) ((TX.test (EX.eqS (EX.var rfl) (EX.str _))).cast (by decide)) (fun z => nomatch z) fun _ => SX.next ?_)
        refine SX.seq (SX.ifS (b := false) ((TX.test (EX.inDT (ks := numOps) (EX.var rfl) (EX.lst (ds := numOps.map .str) (EDs.ea (.cons (EX.str _) (.cons (EX.str _) (.cons (EX.str _) .nil)))) (by decide)) (.inl rfl))).cast (by decide +kernel)) (fun z => nomatch z) fun _ => SX.next ?_)
        refine SX.retM (EM.tup (EA.cons ((EX.var rfl).em (EA.cons (EM.less ((N + cE n - 4) + cE n - 4) rfl (by omega) (EM.callM (EA.cons ((EX.var rfl).em (EA.cons ((EX.var rfl).em (EA.cons ((dn _ 2 rfl).em (EA.nil ⟨a, ns, (N + cE n - 4), rfl, rfl, hn, hl, fun x hx1 hx2 => EA.cons (EM.less (N + cE n - 4) rfl (by omega) (EM.callM (EA.cons ((EX.var rfl).em (EA.cons ((EX.var rfl).em (EA.cons ((dn _ 2 rfl).em (EA.nil ⟨a, ns, N, rfl, rfl, hn, hl, fun y hy1 hy2 => EA.nil ⟨[.str "either", x.d, y.d], rfl, by simp, kk (.bin .either x y) ⟨hx1, hy1⟩ (Nat.succ_le_succ (Nat.max_le.mpr ⟨hx2, hy2⟩)), rfl, rfl⟩⟩)))))))))⟩)))))))))))))
      · refine ⟨.dat (.str "unlike"), c_ixL (atI_nat (j := 4) rfl), ?_⟩
        refine SX.seq (SX.ifS (b := false) ((TX.test (EX.eqS (EX.var rfl) (EX.str _))).cast (by decide)) (fun z => nomatch z) fun _ => SX.next ?_)
        refine SX.seq (SX.ifS (b := false) ((TX.test (EX.inDT (ks := numOps) (EX.var rfl) (EX.lst (ds := numOps.map .str) (EDs.ea (.cons (EX.str _) (.cons (EX.str _) (.cons (EX.str _) .nil)))) (by decide)) (.inl rfl))).cast (by decide +kernel)) (fun z => nomatch z) fun _ => SX.next ?_)
        refine SX.retM (EM.tup (EA.cons ((EX.var rfl).em (EA.cons (EM.less ((N + cE n - 4) + cE n - 4) rfl (by omega) (EM.callM (EA.cons ((EX.var rfl).em (EA.cons ((EX.var rfl).em (EA.cons ((dn _ 2 rfl).em (EA.nil ⟨a, ns, (N + cE n - 4), rfl, rfl, hn, hl, fun x hx1 hx2 => EA.cons (EM.less (N + cE n - 4) rfl (by omega) (EM.callM (EA.cons ((EX.var rfl).em (EA.cons ((EX.var rfl).em (EA.cons ((dn _ 2 rfl).em (EA.nil ⟨a, ns, N, rfl, rfl, hn, hl, fun y hy1 hy2 => EA.nil ⟨[.str "unlike", x.d, y.d], rfl, by simp, kk (.bin .unlike x y) ⟨hx1, hy1⟩ (Nat.succ_le_succ (Nat.max_le.mpr ⟨hx2, hy2⟩)), rfl, rfl⟩⟩)))))))))⟩)))))))))))))
      · refine ⟨.dat (.str "turned"), c_ixL (atI_nat (j := 5) rfl), ?_⟩
        refine SX.seq (SX.ifS (b := true) ((TX.test (EX.eqS (EX.var rfl) (EX.str _))).cast (by decide)) (fun _ => ?_) fun z => nomatch z)
        refine SX.retM (EM.tup (EA.cons ((EX.var rfl).em (EA.cons (EM.less (N + cE n - 4) rfl (by omega) (EM.callM (EA.cons ((EX.var rfl).em (EA.cons ((EX.var rfl).em (EA.cons ((dn _ 2 rfl).em (EA.nil ⟨a, ns, N, rfl, rfl, hn, hl, fun x hx1 hx2 => EA.nil ⟨[.str "turned", x.d], rfl, by simp, kk (.turned x) hx1 (Nat.succ_le_succ hx2), rfl, rfl⟩⟩)))))))))))))
      · refine ⟨.dat (.str "times"), c_ixL (atI_nat (j := 6) rfl), ?_⟩
        refine SX.seq (SX.ifS (b := false) ((TX.test (EX.eqS (EX.var rfl) (EX.str _))).cast (by decide)) (fun z => nomatch z) fun _ => SX.next ?_)
        refine SX.seq (SX.ifS (b := true) ((TX.test (EX.inDT (ks := numOps) (EX.var rfl) (EX.lst (ds := numOps.map .str) (EDs.ea (.cons (EX.str _) (.cons (EX.str _) (.cons (EX.str _) .nil)))) (by decide)) (.inl rfl))).cast (by decide +kernel)) (fun _ => ?_) fun z => nomatch z)
        refine SX.seq (SX.setM (EM.ifE (TX.tm (b := true) ((TX.test (EX.eqS (EX.var rfl) (EX.str _))).cast (by decide)) ?_)))
        rw [if_pos rfl]
        refine EM.op (EM.rnd (EA.cons ((EX.var rfl).em (EA.cons ((EX.int 7).em (EA.nil ⟨a, 7, R + 1, rfl, rfl, by decide, big_of (by decide), fun r hr => ?_⟩))))))
        refine (EX.int 3).em ⟨_, c_i0, ?_⟩
        refine SX.retM (EM.tup (EA.cons ((EX.var rfl).em (EA.cons ((EX.var rfl).em (EA.cons (EM.less (N + cE n - 4) rfl (by omega) (EM.callM (EA.cons ((EX.var rfl).em (EA.cons ((EX.var rfl).em (EA.cons ((dn _ 2 rfl).em (EA.nil ⟨a, ns, N, rfl, rfl, hn, hl, fun x hx1 hx2 => EA.nil ⟨[.str "times", .int ((r : Int) - 3), x.d], rfl, by simp, kk (.times ((r : Int) - 3) x) ⟨by omega, hx1⟩ (Nat.succ_le_succ hx2), rfl, rfl⟩⟩)))))))))))))))
      · refine ⟨.dat (.str "up"), c_ixL (atI_nat (j := 7) rfl), ?_⟩
        refine SX.seq (SX.ifS (b := false) ((TX.test (EX.eqS (EX.var rfl) (EX.str _))).cast (by decide)) (fun z => nomatch z) fun _ => SX.next ?_)
        refine SX.seq (SX.ifS (b := true) ((TX.test (EX.inDT (ks := numOps) (EX.var rfl) (EX.lst (ds := numOps.map .str) (EDs.ea (.cons (EX.str _) (.cons (EX.str _) (.cons (EX.str _) .nil)))) (by decide)) (.inl rfl))).cast (by decide +kernel)) (fun _ => ?_) fun z => nomatch z)
        refine SX.seq (SX.setM (EM.ifE (TX.tm (b := false) ((TX.test (EX.eqS (EX.var rfl) (EX.str _))).cast (by decide)) ?_)))
        rw [if_neg (by decide)]
        refine EM.rnd (EA.cons ((EX.var rfl).em (EA.cons ((EX.int 3).em (EA.nil ⟨a, 3, R + 1, rfl, rfl, by decide, big_of (by decide), fun r hr => ?_⟩)))))
        refine SX.retM (EM.tup (EA.cons ((EX.var rfl).em (EA.cons ((EX.var rfl).em (EA.cons (EM.less (N + cE n - 4) rfl (by omega) (EM.callM (EA.cons ((EX.var rfl).em (EA.cons ((EX.var rfl).em (EA.cons ((dn _ 2 rfl).em (EA.nil ⟨a, ns, N, rfl, rfl, hn, hl, fun x hx1 hx2 => EA.nil ⟨[.str "up", .int (r : Int), x.d], rfl, by simp, kk (.up r x) ⟨by omega, hx1⟩ (Nat.succ_le_succ hx2), rfl, rfl⟩⟩)))))))))))))))
      · refine ⟨.dat (.str "down"), c_ixL (atI_nat (j := 8) rfl), ?_⟩
        refine SX.seq (SX.ifS (b := false) ((TX.test (EX.eqS (EX.var rfl) (EX.str _))).cast (by decide)) (fun z => nomatch z) fun _ => SX.next ?_)
        refine SX.seq (SX.ifS (b := true) ((TX.test (EX.inDT (ks := numOps) (EX.var rfl) (EX.lst (ds := numOps.map .str) (EDs.ea (.cons (EX.str _) (.cons (EX.str _) (.cons (EX.str _) .nil)))) (by decide)) (.inl rfl))).cast (by decide +kernel)) (fun _ => ?_) fun z => nomatch z)
        refine SX.seq (SX.setM (EM.ifE (TX.tm (b := false) ((TX.test (EX.eqS (EX.var rfl) (EX.str _))).cast (by decide)) ?_)))
        rw [if_neg (by decide)]
        refine EM.rnd (EA.cons ((EX.var rfl).em (EA.cons ((EX.int 3).em (EA.nil ⟨a, 3, R + 1, rfl, rfl, by decide, big_of (by decide), fun r hr => ?_⟩)))))
        refine SX.retM (EM.tup (EA.cons ((EX.var rfl).em (EA.cons ((EX.var rfl).em (EA.cons (EM.less (N + cE n - 4) rfl (by omega) (EM.callM (EA.cons ((EX.var rfl).em (EA.cons ((EX.var rfl).em (EA.cons ((dn _ 2 rfl).em (EA.nil ⟨a, ns, N, rfl, rfl, hn, hl, fun x hx1 hx2 => EA.nil ⟨[.str "down", .int (r : Int), x.d], rfl, by simp, kk (.down r x) ⟨by omega, hx1⟩ (Nat.succ_le_succ hx2), rfl, rfl⟩⟩)))))))))))))))
theorem ok_law_expression (T : Tx w K mg) : ∀ n : Nat, FnG P w K mg base CX0 (n + 3) T.a_law_expression T.d_law_expression ["_law_generator_here", "_law_names", "_law_deep"] (spExpr n)
  | 0 => expr_one T 0 2 (by omega) (never fun _ _ _ _ z => z)
  | n + 1 => expr_one T (n + 1) (n + 3) (by omega) (ok_law_expression T n)
end

end K07

set_option Elab.async false
set_option linter.all false
set_option maxRecDepth 100000
set_option maxHeartbeats 4000000
namespace K07
open PySem PySem.Spec PyProof.Rows L2 Hw

section
variable {P : Program} {w : World} {K : PySem.W.Frag} {mg : Str → Option Value} {base : Heap}
theorem tup_words (e : Et) (h : isTuple e.d = true) : claimT.lookup (firstW e.d) = none ∧ (["and", "or"] : List Str).contains (firstW e.d) = false := by
  cases e with
  | int i => cases h
  | nm z => cases h
  | turned a => exact (by decide +kernel : claimT.lookup ("turned" : Str) = none ∧ (["and", "or"] : List Str).contains "turned" = false)
  | times i a => exact (by decide +kernel : claimT.lookup ("times" : Str) = none ∧ (["and", "or"] : List Str).contains "times" = false)
  | up i a => exact (by decide +kernel : claimT.lookup ("up" : Str) = none ∧ (["and", "or"] : List Str).contains "up" = false)
  | down i a => exact (by decide +kernel : claimT.lookup ("down" : Str) = none ∧ (["and", "or"] : List Str).contains "down" = false)
  | bin o a b => exact (by cases o <;> decide +kernel : claimT.lookup o.w = none ∧ (["and", "or"] : List Str).contains o.w = false)
theorem any_words (e : Et) : (["some", "all"] : List Str).contains (firstW e.d) = false ∧ firstW e.d ≠ "told" := by
  cases e with
  | int i => exact (by decide +kernel : (["some", "all"] : List Str).contains "" = false ∧ ("" : Str) ≠ "told")
  | nm z => exact (by decide +kernel : (["some", "all"] : List Str).contains "" = false ∧ ("" : Str) ≠ "told")
  | turned a => exact (by decide +kernel : (["some", "all"] : List Str).contains "turned" = false ∧ ("turned" : Str) ≠ "told")
  | times i a => exact (by decide +kernel : (["some", "all"] : List Str).contains "times" = false ∧ ("times" : Str) ≠ "told")
  | up i a => exact (by decide +kernel : (["some", "all"] : List Str).contains "up" = false ∧ ("up" : Str) ≠ "told")
  | down i a => exact (by decide +kernel : (["some", "all"] : List Str).contains "down" = false ∧ ("down" : Str) ≠ "told")
  | bin o a b => exact (by cases o <;> decide +kernel : (["some", "all"] : List Str).contains o.w = false ∧ (o.w : Str) ≠ "told")
theorem ok_claim_parts (T : Tx w K mg) : FnG P w K mg base CX0 2 T.a_claim_parts T.d_claim_parts ["value"] (spR fun ds r => ∃ e : Et, ds = [e.d] ∧ isTuple e.d = true ∧ r = .none) := by
  have G_first_word := ok_first_word (P := P) (w := w) (base := base) T
  refine bodyR T.F_claim_parts sc_claim_parts (fun ds r h => by obtain ⟨e, rfl, _⟩ := h; rfl) fun cdv A outer s H E gd hr => ⟨_, (pss_cons (ps_set (i := 1) sc_claim_parts.nd rfl (Or.inl rfl) (pe_g G_first_word gd (hr.mono (by decide)) (by rfl) T.g_first_word T.F_first_word.kp T.b_first_word .nil pass0 (pa_cons (pv 0) pa_nil)))
      (pss_cons (ps_if (pt_cmpR (op_inK (K := K) rfl) (pv 1) (pe_tup (pa_cons pe_str (pa_cons pe_str pa_nil))) (by rfl)) (pss_one ps_never) pss_nil)
      (pss_one (ps_ret (pe_kget rfl rfl T.t_CLAIM_PARTS (C8.pe_gc (by rfl) T.c_CLAIM_PARTS) (pv 1) ⟨rfl, by rfl, by rfl, by rfl⟩))))), ?_⟩
  rintro _ _ hd ⟨e, rfl, ht, rfl⟩
  obtain ⟨w1, w2⟩ := tup_words e ht
  refine SX.seq (SX.set (s := .dat (.str (firstW e.d))) (EX.call (ds := [e.d]) (EAX.cons (EX.var rfl) EAX.nil) ⟨_, rfl, trivial⟩ rfl) ?_)
  refine SX.seq (SX.ifS (b := false) ((TX.test (EX.inDT (ks := ["and", "or"]) (EX.var rfl) (EX.tup (ds := [.str "and", .str "or"]) (EDs.ea (.cons (EX.str _) (.cons (EX.str _) .nil)))) (.inr rfl))).cast w2) (fun z => nomatch z) fun _ => SX.next ?_)
  refine SX.retM (EM.kget T.t_CLAIM_PARTS (EX.var rfl) fun s hs => ?_)
  rcases hs with ⟨_, rfl⟩ | ⟨ks, p, e1, _⟩
  · exact ⟨rfl, rfl, rfl⟩
  · rw [w1] at e1; cases e1
def kindW : List Str := ["expression", "claim"]
theorem zip_str (ks : List Str) (ps : List PyData) : zipS (ks.map .str) ps = (ks.zip ps).map fun q => Sl.dat (.tuple [.str q.1, q.2]) := by
  unfold zipS
  induction ks generalizing ps with
  | nil => rfl
  | cons k r ih =>
    cases ps with
    | nil => rfl
    | cons p ps => rw [List.map_cons, List.zip_cons_cons, List.map_cons, ih]; rfl
theorem kw_e : ("expression" : Str) ∈ kindW := by decide +kernel
theorem kw_w : ("whole" : Str) ∉ kindW := by decide +kernel
theorem kw_c : ("count" : Str) ∉ kindW := by decide +kernel
theorem tup_table (e : Et) (h : isTuple e.d = true) : ∃ (z : Str) (ks : List Str) (ps : List PyData), e.d = .tuple (.str z :: ps) ∧ exprT.lookup z = some ks ∧ ks.length ≤ 100 ∧ (((ks.zip ps).filter fun q => kindW.contains q.1).map fun q => q.2) = e.subs.map Et.d := by
  cases e with
  | int i => cases h
  | nm z => cases h
  | turned a => exact ⟨"turned", ["expression"], _, rfl, by decide +kernel, by decide, by simp [Et.subs, List.filter, kw_e]⟩
  | times i a => exact ⟨"times", ["whole", "expression"], _, rfl, by decide +kernel, by decide, by simp [Et.subs, List.filter, kw_e, kw_w]⟩
  | up i a => exact ⟨"up", ["count", "expression"], _, rfl, by decide +kernel, by decide, by simp [Et.subs, List.filter, kw_e, kw_c]⟩
  | down i a => exact ⟨"down", ["count", "expression"], _, rfl, by decide +kernel, by decide, by simp [Et.subs, List.filter, kw_e, kw_c]⟩
  | bin o a b => exact ⟨o.w, ["expression", "expression"], _, rfl, by cases o <;> decide +kernel, by decide, by simp [Et.subs, List.filter, kw_e]⟩
theorem ok_parts_of (T : Tx w K mg) : FnG P w K mg base CX0 3 T.a_parts_of T.d_parts_of ["knot"] (spR fun ds r => ∃ e : Et, ds = [e.d] ∧ r = .list (e.subs.map Et.d)) := by
  have G_claim_parts := ok_claim_parts (P := P) (w := w) (base := base) T
  refine bodyR T.F_parts_of sc_parts_of (fun ds r h => by obtain ⟨e, rfl, _⟩ := h; rfl) fun cdv A outer s H E gd hr => ⟨_, (pss_cons (ps_if (pt_not (pt_val (pe_callB call_isD (by rfl) T.z_isinstance (by decide +kernel) (pa_cons (pv 0) (pa_cons (pe_bltn (v := .ty "tuple") (by rfl) T.z_tuple (by decide +kernel) rfl) pa_nil))))) (pss_one (ps_ret (pe_lst pa_nil))) pss_nil)
      (pss_cons (ps_set (i := 1) sc_parts_of.nd rfl (Or.inl rfl) (pe_g G_claim_parts gd (hr.mono (by decide)) (by rfl) T.g_claim_parts T.F_claim_parts.kp T.b_claim_parts .nil pass0 (pa_cons (pv 0) pa_nil)))
      (pss_cons (ps_if (pt_cmpR op_isN (pv 1) pe_non (nomark _)) (pss_one (ps_set (i := 1) sc_parts_of.nd rfl (Or.inl rfl) (pe_ix ix_kdict (C8.pe_gc (by rfl) T.c_EXPRESSION_PARTS) (pe_ix (ix_seqK (K := K) rfl) (pv 0) pe_int (fun _ _ => rfl)) (fun _ _ => rfl)))) pss_nil)
      (pss_one (ps_ret (pe_lc (own := [("kind", 2), ("part", 3)]) (g := gTup K 2 (gCons (gName 2) (gCons (gName 3) gNil))) rfl sc_parts_of.nd (RZ.pi_zipA (by rfl) T.z_zip (pa_cons (pv 1) (pa_cons (pe_slice (sl_tupK (K := K) rfl) (pv 0) (po_some pe_int) po_none) pa_nil))) (blkOk_by (N := ["knot", "kinds", "kind", "part"]) (sc := defScope s_parts_of) (by decide +kernel)) (fun _ _ _ _ _ => (pg_tup (by rfl) (pgs_cons (pg_name (i := 2) sc_parts_of.nd rfl (Or.inl rfl)) (pgs_cons (pg_name (i := 3) sc_parts_of.nd rfl (Or.inl rfl)) pgs_nil)))) (fun _ _ _ _ _ => (pts_one (pt_cmpR (op_inK (K := K) rfl) (pv 2) (pe_tup (pa_cons pe_str (pa_cons pe_str pa_nil))) (by rfl)))) (fun _ _ _ _ _ => (pv 3)))))))), ?_⟩
  rintro _ _ hd ⟨e, rfl, rfl⟩
  refine SX.seq (SX.ifS (TX.not (TX.tB (EX.isi (EX.var rfl) (kit_tuple e.d)))) (fun h => ?_) fun h => ?_)
  · have : e.subs = [] := by cases e <;> first | rfl | cases h
    rw [this]
    exact SX.ret (EX.lst (ds := []) EAX.nil) ⟨rfl, rfl, rfl⟩
  · have ht : isTuple e.d = true := by
      cases q : isTuple e.d with
      | true => rfl
      | false => rw [q] at h; cases h
    obtain ⟨z, ks, ps, e1, e2, e3, e4⟩ := tup_table e ht
    refine SX.next (SX.seq (SX.set (s := .dat .none) (EX.callR (ds := [e.d]) (EAX.cons (EX.var rfl) EAX.nil) ⟨e, rfl, ht, rfl⟩) ?_))
    refine SX.seq (SX.ifS (b := true) (TX.test (EX.isN (d := .none) (EX.var rfl) EX.non)) (fun _ => ?_) fun z => nomatch z)
    refine SX.setM (EM.kat T.t_EXPRESSION_PARTS (EX.con _) (EX.ixQ (d := .str z) (EX.var rfl) (EX.int 0) (.inr e1) (atI_nat (j := 0) rfl)) e2 fun p hp => ?_)
    have cut := cut_one (.str z) ps
    refine SX.ret ((EX.lc (xs := ks.zip ps) (emb := fun q => Sl.dat (.tuple [.str q.1, q.2])) (by rw [← zip_str]; exact IT.zipKT (p := p) (ks := ks) (EAX.cons (EX.var rfl) (EAX.cons ((EX.slT ((EX.var rfl).dat e1) (EO.some (EX.int 1)) EO.no).dat (congrArg PyData.tuple cut)) EAX.nil)) hp) (TgOk.tup (TgsOk.cons (by simp) (TgsOk.cons (by simp) TgsOk.nil))) (fun q => kindW.contains q.1) (fun q => q.2) ?_ fun q hq D ds => GX.tup rfl (GXs.cons (GX.name (GXs.cons (GX.name (GXs.nil ⟨⟨rfl, rfl, rfl, rfl⟩, TX.test (EX.inDT (ks := kindW) (EX.var rfl) (EX.tup (ds := [.str "expression", .str "claim"]) (EDs.ea (.cons (EX.str _) (.cons (EX.str _) .nil)))) (.inr rfl)), fun _ => EX.var rfl⟩)))))).dat (by rw [e4])) ⟨rfl, rfl, rfl⟩
    rw [List.length_zip]; omega
def spNms (n : Nat) : Sp := spR fun ds r => ∃ (e : Et) (ns : List Str), ds = [e.d] ∧ e.ok ns ∧ e.depth ≤ n ∧ n ≤ 10 ∧ r = .list (e.nms.map .str)
theorem sub0 {e : Et} {ns : List Str} {n : Nat} (he : e.ok ns) (h : e.depth ≤ n) : ∀ a ∈ e.subs, ∃ m, n = m + 1 ∧ a.ok ns ∧ a.depth ≤ m := by
  intro a ha
  cases n with
  | zero =>
    exfalso
    cases e with
    | int i => exact nomatch ha
    | nm z => exact nomatch ha
    | turned b => exact Nat.not_succ_le_zero _ h
    | times i b => exact Nat.not_succ_le_zero _ h
    | up i b => exact Nat.not_succ_le_zero _ h
    | down i b => exact Nat.not_succ_le_zero _ h
    | bin o b c => exact Nat.not_succ_le_zero _ h
  | succ m => exact ⟨m, rfl, Et.subs_ok e he h a ha⟩
theorem subs_len (e : Et) : e.subs.length ≤ 2 := by cases e <;> simp [Et.subs]
theorem flat_len {e : Et} {n i : Nat} (h : e.depth ≤ n) (hi : n ≤ 10) : ((e.subs.take i).flatMap Et.nms).length ≤ 2048 := by
  have one : ∀ l : List Et, (∀ a ∈ l, a.depth ≤ 10) → (l.flatMap Et.nms).length ≤ l.length * 1024 := by
    intro l
    induction l with
    | nil => intro _; exact Nat.zero_le _
    | cons a r ih =>
      intro h
      have h1 := Et.nms_len a 10 (h a (List.mem_cons_self ..))
      have h2 := ih fun b hb => h b (List.mem_cons_of_mem _ hb)
      rw [List.flatMap_cons, List.length_append, List.length_cons]
      omega
  have sl := subs_len e
  have h1 := one (e.subs.take i) fun a ha => by
    have ha := List.mem_of_mem_take ha
    cases e with
    | int i => exact nomatch ha
    | nm z => exact nomatch ha
    | turned b => rw [List.mem_singleton.mp ha]; have : b.depth + 1 ≤ n := h; omega
    | times i b => rw [List.mem_singleton.mp ha]; have : b.depth + 1 ≤ n := h; omega
    | up i b => rw [List.mem_singleton.mp ha]; have : b.depth + 1 ≤ n := h; omega
    | down i b => rw [List.mem_singleton.mp ha]; have : b.depth + 1 ≤ n := h; omega
    | bin o b c =>
      have : max b.depth c.depth + 1 ≤ n := h
      rcases List.mem_cons.mp ha with rfl | ha
      · omega
      · rw [List.mem_singleton.mp ha]; omega
  have h2 := List.length_take_le i e.subs
  rw [List.length_take] at h1
  omega
theorem standing_one (T : Tx w K mg) (n j : Nat) (hj : 3 ≤ j) (G_names_standing : FnG P w K mg base CX0 j T.a_names_standing T.d_names_standing ["knot"] (match n with | 0 => spR fun _ _ => False | n + 1 => spNms n)) : FnG P w K mg base CX0 (j + 1) T.a_names_standing T.d_names_standing ["knot"] (spNms n) := by
  have G_first_word := ok_first_word (P := P) (w := w) (base := base) T
  have G_parts_of := ok_parts_of (P := P) (w := w) (base := base) T
  refine bodyR T.F_names_standing sc_names_standing (fun ds r h => by obtain ⟨e, ns, rfl, _⟩ := h; rfl) fun cdv A outer s H E gd hr => ⟨_, (pss_cons (ps_if (pt_val (pe_callB call_isD (by rfl) T.z_isinstance (by decide +kernel) (pa_cons (pv 0) (pa_cons (pe_bltn (v := .ty "str") (by rfl) T.z_str (by decide +kernel) rfl) pa_nil)))) (pss_one (ps_ret (pe_lst (pa_cons (pv 0) pa_nil)))) pss_nil)
      (pss_cons (ps_set (i := 1) sc_names_standing.nd rfl (Or.inl rfl) (pe_lst pa_nil))
      (pss_cons (ps_if (pt_cmpR (op_inK (K := K) rfl) (pe_g G_first_word gd (hr.mono (by omega)) (by rfl) T.g_first_word T.F_first_word.kp T.b_first_word .nil pass0 (pa_cons (pv 0) pa_nil)) (pe_tup (pa_cons pe_str (pa_cons pe_str pa_nil))) (by rfl)) (pss_one ps_never) pss_nil)
      (pss_cons (ps_if (pt_cmpR op_eq (pe_g G_first_word gd (hr.mono (by omega)) (by rfl) T.g_first_word T.F_first_word.kp T.b_first_word .nil pass0 (pa_cons (pv 0) pa_nil)) pe_str (nomark _)) (pss_one ps_never) pss_nil)
      (pss_cons (ps_for PassesOwn.never rfl (pi_list (pe_g G_parts_of gd (hr.mono (by omega)) (by rfl) T.g_parts_of T.F_parts_of.kp T.b_parts_of .nil pass0 (pa_cons (pv 0) pa_nil))) (pg_name (i := 2) sc_names_standing.nd rfl (Or.inl rfl)) (pss_one (ps_expr (pe_bm PySem.F.plainAttrs_list PySem.F.slot_list_extend PySem.F.type_list_extend mt_extend (pv 1) (pa_cons (pe_g G_names_standing gd (hr.mono (by omega)) (by rfl) T.g_names_standing T.F_names_standing.kp T.b_names_standing .nil pass0 (pa_cons (pv 2) pa_nil)) pa_nil)))))
      (pss_one (ps_ret (pv 1)))))))), ?_⟩
  rintro _ _ hd ⟨e, ns, rfl, he, hde, hn, rfl⟩
  obtain ⟨a1, a2⟩ := any_words e
  have fw : ∀ g : GS, g.sl[0]? = some (.dat e.d) → EX (tCall (spF (p1 fun _ => True) (f1 fun d => .str (firstW d))) [] E0 (tCons (tVar 0) tNil)) g (.dat (.str (firstW e.d))) := fun g hg => EX.call (ds := [e.d]) (EAX.cons (EX.var hg) EAX.nil) ⟨_, rfl, trivial⟩ rfl
  refine SX.seq (SX.ifS (TX.tB (EX.isi (EX.var rfl) (kit_str e.d))) (fun h => ?_) fun h => ?_)
  · cases e with
    | nm z => exact SX.ret (EX.lst (ds := [.str z]) (EDs.ea (.cons (EX.var rfl) .nil))) ⟨rfl, rfl, rfl⟩
    | _ => cases h
  refine SX.next (SX.seq (SX.setM (EM.ownLst (EA.nil ⟨by decide, fun a _ => ?_⟩))))
  refine SX.seq (SX.ifS (b := false) ((TX.test (EX.inDT (ks := ["some", "all"]) (fw _ rfl) (EX.tup (ds := [.str "some", .str "all"]) (EDs.ea (.cons (EX.str _) (.cons (EX.str _) .nil)))) (.inr rfl))).cast a1) (fun z => nomatch z) fun _ => SX.next ?_)
  refine SX.seq (SX.ifS (b := false) ((TX.test (EX.eqS (fw _ rfl) (EX.str _))).cast (decide_eq_false a2)) (fun z => nomatch z) fun _ => SX.next ?_)
  refine SX.seq (SX.for_ (IT.listM (xs := e.subs) (f := Et.d) (EX.callR (ds := [e.d]) (EAX.cons (EX.var rfl) EAX.nil) ⟨e, rfl, rfl⟩)) (fun i g' => ∃ s2, g' = ⟨[.dat e.d, .con (.ref a), s2], [(a, .lst ((((e.subs.take i).flatMap Et.nms).map PyData.str).map Sl.dat))], [], hd, []⟩) ⟨.no, rfl⟩ ?_ ?_)
  · rintro i s _ hs ⟨s2, rfl⟩
    obtain ⟨x, hx, rfl⟩ := getElem?_map_some hs
    obtain ⟨m, rfl, hx1, hx2⟩ := sub0 he hde x (List.mem_of_getElem? hx)
    have l1 := flat_len (i := i) hde hn
    have l2 := Et.nms_len x 10 (by omega)
    refine GX.name (SX.dropM (EM.extendO (a := a) (n0 := 0) (EX.var rfl) rfl ((EX.callR (d := .list (x.nms.map .str)) (ds := [x.d]) (EAX.cons (EX.var rfl) EAX.nil) ⟨x, ns, rfl, hx1, hx2, by omega, rfl⟩).em ⟨0, _, _, rfl, rfl, ?_, .dat x.d, ?_⟩)))
    · rw [List.length_map, List.length_map, List.length_map]; omega
    · rw [List.take_add_one, hx, List.flatMap_append, List.map_append, List.map_append]
      simp only [Option.toList, List.flatMap_cons, List.flatMap_nil, List.append_nil]
      rfl
  · rintro _ ⟨s2, rfl⟩
    rw [List.length_map, List.take_length]
    refine SX.freeze (a := a) 0 [1] (ds := (e.subs.flatMap Et.nms).map .str) rfl (fun j hj => by rw [List.mem_singleton.mp hj]; rfl) ?_
    refine SX.ret ((EX.var rfl).dat ?_) ⟨rfl, rfl, rfl⟩
    rw [Et.nms_subs e fun z hz => ?_]
    subst hz
    cases h
theorem ok_names_standing (T : Tx w K mg) : ∀ n : Nat, FnG P w K mg base CX0 (n + 4) T.a_names_standing T.d_names_standing ["knot"] (spNms n)
  | 0 => standing_one T 0 3 (by omega) (neverR fun _ _ z => z)
  | n + 1 => standing_one T (n + 1) (n + 4) (by omega) (ok_names_standing T n)
/-- the names once each, in order -/
def IsNames (e : Et) (zs : List Str) : Prop := zs.Nodup ∧ PyProof.Rows.sortedS zs = true ∧ ∀ z, z ∈ zs ↔ z ∈ e.nms
theorem IsNames.one {e : Et} {a b : List Str} (h : IsNames e a) (k : IsNames e b) : a = b := txt_uniq h.1 k.1 h.2.1 k.2.1 fun z => (h.2.2 z).trans (k.2.2 z).symm
theorem ok_names_of_expression (T : Tx w K mg) : FnG P w K mg base CX0 20 T.a_names_of_expression T.d_names_of_expression ["expression"] (spR fun ds r => ∃ (e : Et) (ns zs : List Str), ds = [e.d] ∧ Nn ns ∧ e.ok ns ∧ e.depth ≤ 5 ∧ IsNames e zs ∧ r = .list (zs.map .str)) := by
  have G_check_expression := ok_check_expression (P := P) (w := w) (base := base) T
  have G_names_standing := ok_names_standing (P := P) (w := w) (base := base) T 5
  refine bodyR T.F_names_of_expression sc_names_of_expression (fun ds r h => by obtain ⟨e, ns, zs, rfl, _⟩ := h; rfl) fun cdv A outer s H E gd hr => ⟨_, (pss_cons (ps_expr (pe_g G_check_expression gd (hr.mono (by decide)) (by rfl) T.g_check_expression T.F_check_expression.kp T.b_check_expression .nil pass0 (pa_cons (pv 0) pa_nil)))
      (pss_one (ps_ret (pe_callB (cr_sortedX rfl) (by rfl) T.z_sorted (by decide +kernel) (pa_cons (pe_callTy (cr_setX K rfl rfl) (by rfl) T.z_set (by decide +kernel) (pa_cons (pe_g G_names_standing gd (hr.mono (by decide)) (by rfl) T.g_names_standing T.F_names_standing.kp T.b_names_standing .nil pass0 (pa_cons (pv 0) pa_nil)) pa_nil)) pa_nil))))), ?_⟩
  rintro _ _ hd ⟨e, ns, zs, rfl, hn, he, hde, hz, rfl⟩
  have l := Et.nms_len e 5 hde
  refine SX.seq (SX.drop (EX.callR (d := .none) (ds := [e.d]) (EAX.cons (EX.var rfl) EAX.nil) ⟨e, ns, rfl, hn, he, hde, rfl⟩) ?_)
  refine SX.retM (EM.sortSetX (xs := e.nms) (EX.callR (ds := [e.d]) (EAX.cons (EX.var rfl) EAX.nil) ⟨e, ns, rfl, he, hde, by omega, rfl⟩) (by omega) fun ys y1 y2 y3 => ?_)
  rw [IsNames.one (a := ys) ⟨y1, y3, y2⟩ hz]
  exact ⟨rfl, rfl, rfl⟩
end

end K07

set_option Elab.async false
set_option linter.all false
set_option maxRecDepth 100000
set_option maxHeartbeats 4000000
namespace K07
open PySem PySem.Spec PyProof.Rows L2 Hw

section
variable {P : Program} {w : World} {K : PySem.W.Frag} {mg : Str → Option Value} {base : Heap}
theorem c_leT {g : GS} {i j : Int} (h : i ≤ j) : RC2 (rI0 fun i j => .bl (decide (i ≤ j))) g (.dat (.int i)) (.dat (.int j)) (.dat (.bool true)) := by
  have := c_b0 (g := g) (f := fun i j => decide (i ≤ j)) (i := i) (j := j)
  rw [decide_eq_true h] at this
  exact this
theorem ok_is_count_to (T : Tx w K mg) : FnG P w K mg base CX0 2 T.a_is_count_to T.d_is_count_to ["value", "most"] (spR fun ds r => ∃ v m : Int, ds = [.int v, .int m] ∧ 0 ≤ v ∧ v ≤ m ∧ r = .bool true) := by
  have G_is_whole := ok_is_whole (P := P) (w := w) (base := base) T
  refine bodyR T.F_is_count_to sc_is_count_to (fun ds r h => by obtain ⟨v, m, rfl, _⟩ := h; rfl) fun cdv A outer s H E gd hr => ⟨_, (pss_one (ps_ret (pe_and (pe_g G_is_whole gd (hr.mono (by decide)) (by rfl) T.g_is_whole T.F_is_whole.kp T.b_is_whole .nil pass0 (pa_cons (pv 0) pa_nil)) (pe_one (pe_chain op_le op_le pe_int (pv 0) (pv 1)))))), ?_⟩
  rintro _ _ hd ⟨v, m, rfl, h0, h1, rfl⟩
  refine SX.ret ((EX.andV (b := true) (c := true) (EX.call (ds := [.int v]) (EAX.cons (EX.var rfl) EAX.nil) ⟨_, rfl, trivial⟩ rfl) fun _ => (EX.chain (b := true) (c := true) (EX.int 0) (EX.var rfl) (c_leT h0) fun _ => ⟨_, EX.var rfl, c_leT h1⟩)).dat rfl) ⟨rfl, rfl, rfl⟩
theorem one_shl {wd : Nat} (h : wd ≤ 64) : CShl 1 (wd : Int) := ⟨Int.natCast_nonneg _, by
  have := PyProof.Rows.intBits_le (show (1 : Int).natAbs < 2 ^ 1 by decide)
  omega⟩
theorem one_val (wd : Nat) : (1 : Int) * 2 ^ ((wd : Int)).toNat = 2 ^ wd := by rw [Int.one_mul, Int.toNat_natCast]
theorem EX.mask {g : GS} {i wd : Nat} (hg : g.sl[i]? = some (.dat (.int (wd : Int)))) (h : wd ≤ 64) : EX (tOp (rI0 fun i j => .int (i - j)) (tOp (rI CShl fun i j => .int (i * 2 ^ j.toNat)) (tC (.int 1)) (tVar i)) (tC (.int 1))) g (.dat (.int (2 ^ wd - 1))) :=
  (EX.i0 (EX.iC (EX.int 1) (EX.var hg) (one_shl h)) (EX.int 1)).dat (by rw [one_val])
theorem ok_is_word_of (T : Tx w K mg) : FnG P w K mg base CX0 3 T.a_is_word_of T.d_is_word_of ["width", "value"] (spR fun ds r => ∃ wd v : Nat, ds = [.int (wd : Int), .int (v : Int)] ∧ wd ≤ 64 ∧ v < 2 ^ wd ∧ r = .bool true) := by
  have G_is_count_to := ok_is_count_to (P := P) (w := w) (base := base) T
  refine bodyR T.F_is_word_of sc_is_word_of (fun ds r h => by obtain ⟨wd, v, rfl, _⟩ := h; rfl) fun cdv A outer s H E gd hr => ⟨_, (pss_one (ps_ret (pe_g G_is_count_to gd (hr.mono (by decide)) (by rfl) T.g_is_count_to T.F_is_count_to.kp T.b_is_count_to .nil pass0 (pa_cons (pv 1) (pa_cons (pe_op op_sub (pe_op op_shlW pe_int (pv 0)) pe_int) pa_nil))))), ?_⟩
  rintro _ _ hd ⟨wd, v, rfl, hw, hv, rfl⟩
  have pc := p2cast wd
  exact SX.ret (EX.callR (d := .bool true) (ds := [.int (v : Int), .int (2 ^ wd - 1)]) (EAX.cons (EX.var rfl) (EAX.cons (EX.mask rfl hw) EAX.nil)) ⟨_, _, rfl, Int.natCast_nonneg _, by omega, rfl⟩) ⟨rfl, rfl, rfl⟩
theorem ok_check_width_to (T : Tx w K mg) : FnG P w K mg base CX0 3 T.a_check_width_to T.d_check_width_to ["width", "most"] (spR fun ds r => ∃ v m : Int, ds = [.int v, .int m] ∧ 0 ≤ v ∧ v ≤ m ∧ r = .none) := by
  have G_is_count_to := ok_is_count_to (P := P) (w := w) (base := base) T
  refine bodyR T.F_check_width_to sc_check_width_to (fun ds r h => by obtain ⟨v, m, rfl, _⟩ := h; rfl) fun cdv A outer s H E gd hr => ⟨_, (pss_one (ps_if (pt_not (pt_val (pe_g G_is_count_to gd (hr.mono (by decide)) (by rfl) T.g_is_count_to T.F_is_count_to.kp T.b_is_count_to .nil pass0 (pa_cons (pv 0) (pa_cons (pv 1) pa_nil))))) (pss_one ps_never) pss_nil)), ?_⟩
  rintro _ _ hd ⟨v, m, rfl, h0, h1, rfl⟩
  exact SX.ifS (b := false) (TX.not (b := true) (TX.tB (EX.callR (ds := [.int v, .int m]) (EAX.cons (EX.var rfl) (EAX.cons (EX.var rfl) EAX.nil)) ⟨v, m, rfl, h0, h1, rfl⟩))) (fun z => nomatch z) fun _ => SX.next ⟨rfl, rfl, rfl⟩
theorem ok_check_width (T : Tx w K mg) : FnG P w K mg base CX0 4 T.a_check_width T.d_check_width ["width"] (spR fun ds r => ∃ wd : Nat, ds = [.int (wd : Int)] ∧ wd ≤ 64 ∧ r = .none) := by
  have G_check_width_to := ok_check_width_to (P := P) (w := w) (base := base) T
  refine bodyR T.F_check_width sc_check_width (fun ds r h => by obtain ⟨wd, rfl, _⟩ := h; rfl) fun cdv A outer s H E gd hr => ⟨_, (pss_one (ps_expr (pe_g G_check_width_to gd (hr.mono (by decide)) (by rfl) T.g_check_width_to T.F_check_width_to.kp T.b_check_width_to .nil pass0 (pa_cons (pv 0) (pa_cons (C8.pe_gc (by rfl) T.c_MOST_WIDTH) pa_nil))))), ?_⟩
  rintro _ _ hd ⟨wd, rfl, hw, rfl⟩
  exact SX.drop (EX.callR (d := .none) (ds := [.int (wd : Int), .int 64]) (EAX.cons (EX.var rfl) (EAX.cons (EX.int 64) EAX.nil)) ⟨_, _, rfl, Int.natCast_nonneg _, by omega, rfl⟩) ⟨rfl, rfl, rfl⟩
theorem txt_shaped {ns : List Str} (hn : Nn ns) {z : Str} (h : z ∈ ns) : SeqAt.shaped (.str z) = true := (et_nice hn (e := .nm z) h (Nat.zero_le _)).shaped
theorem ok_is_filled (T : Tx w K mg) : FnG P w K mg base CX0 4 T.a_is_filled T.d_is_filled ["width", "name", "value"] (spR fun ds r => ∃ (wd v : Nat) (z : Str) (ns : List Str), ds = [.int (wd : Int), .str z, tiD (z, (v : Int))] ∧ wd ≤ 64 ∧ v < 2 ^ wd ∧ Nn ns ∧ z ∈ ns ∧ r = .bool true) := by
  have G_is_word_of := ok_is_word_of (P := P) (w := w) (base := base) T
  refine bodyR T.F_is_filled sc_is_filled (fun ds r h => by obtain ⟨wd, v, z, ns, rfl, _⟩ := h; rfl) fun cdv A outer s H E gd hr => ⟨_, (pss_one (ps_ret (pe_and (pe_callB call_isD (by rfl) T.z_isinstance (by decide +kernel) (pa_cons (pv 2) (pa_cons (pe_bltn (v := .ty "tuple") (by rfl) T.z_tuple (by decide +kernel) rfl) pa_nil))) (pe_and (pe_cmpR op_eq (pe_callB (call_lenK (K := K) rfl) (by rfl) T.z_len (by decide +kernel) (pa_cons (pv 2) pa_nil)) pe_int (nomark _)) (pe_and (pe_cmpR (op_eqT hr.units) (pe_ix (ix_tupK (K := K) rfl) (pv 2) pe_int (fun _ _ => rfl)) (pv 1) (nomark _)) (pe_one (pe_g G_is_word_of gd (hr.mono (by decide)) (by rfl) T.g_is_word_of T.F_is_word_of.kp T.b_is_word_of .nil pass0 (pa_cons (pv 0) (pa_cons (pe_ix (ix_tupK (K := K) rfl) (pv 2) pe_int (fun _ _ => rfl)) pa_nil))))))))), ?_⟩
  rintro _ _ hd ⟨wd, v, z, ns, rfl, hw, hv, hn, hz, rfl⟩
  have sh := txt_shaped hn hz
  refine SX.ret ((EX.andV (b := true) (c := true) (EX.isi (EX.var rfl) (kit_tuple (tiD (z, (v : Int))))) fun _ => (EX.andV (b := true) (c := true) ((EX.eqI (EX.lenT (ds := [.str z, .int (v : Int)]) (EX.var rfl)) (EX.int 2)).dat rfl) fun _ => (EX.andV (b := true) (c := true) ((EX.eqT (EX.ixT (d := .str z) (EX.var rfl) (EX.int 0) (atI_nat (j := 0) rfl)) (EX.var rfl) sh sh).dat (congrArg PyData.bool ((et_nice hn (e := .nm z) hz (Nat.zero_le _)).refl))) fun _ => EX.callR (ds := [.int (wd : Int), .int (v : Int)]) (EAX.cons (EX.var rfl) (EAX.cons (EX.ixT (EX.var rfl) (EX.int 1) (atI_nat (j := 1) rfl)) EAX.nil)) ⟨wd, v, rfl, hw, hv, rfl⟩).dat rfl).dat rfl).dat rfl) ⟨rfl, rfl, rfl⟩
/-- words for names -/
def Filled (wd : Nat) (ns : List Str) (kvs : List (Str × Int)) : Prop := ∀ p ∈ kvs, p.1 ∈ ns ∧ ∃ v : Nat, p.2 = (v : Int) ∧ v < 2 ^ wd
theorem zip_ti (kvs : List (Str × Int)) : zipS ((kvs.map (·.1)).map .str) (kvs.map tiD) = kvs.map fun p => Sl.dat (.tuple [.str p.1, tiD p]) := by
  unfold zipS
  induction kvs with
  | nil => rfl
  | cons p r ih => rw [List.map_cons, List.map_cons, List.map_cons, List.zip_cons_cons, List.map_cons, ih]; rfl
theorem ok_is_filling_of (T : Tx w K mg) : FnG P w K mg base CX0 5 T.a_is_filling_of T.d_is_filling_of ["width", "names", "value"] (spR fun ds r => ∃ (wd : Nat) (kvs : List (Str × Int)) (ns : List Str), ds = [.int (wd : Int), .list ((kvs.map (·.1)).map .str), .list (kvs.map tiD)] ∧ wd ≤ 64 ∧ Nn ns ∧ Filled wd ns kvs ∧ kvs.length ≤ 1000 ∧ r = .bool true) := by
  have G_is_filled := ok_is_filled (P := P) (w := w) (base := base) T
  refine bodyR T.F_is_filling_of sc_is_filling_of (fun ds r h => by obtain ⟨wd, kvs, ns, rfl, _⟩ := h; rfl) fun cdv A outer s H E gd hr => ⟨_, (pss_cons (ps_if (PW.pt (pw_or (pt_not (pt_val (pe_callB call_isD (by rfl) T.z_isinstance (by decide +kernel) (pa_cons (pv 2) (pa_cons (pe_bltn (v := .ty "list") (by rfl) T.z_list (by decide +kernel) rfl) pa_nil))))) (pw_or1 (pt_cmpR op_ne (pe_callB (call_lenK (K := K) rfl) (by rfl) T.z_len (by decide +kernel) (pa_cons (pv 2) pa_nil)) (pe_callB (call_lenK (K := K) rfl) (by rfl) T.z_len (by decide +kernel) (pa_cons (pv 1) pa_nil)) (nomark _))))) (pss_one (ps_ret pe_bl)) pss_nil)
      (pss_one (ps_ret (pe_callB (cr_all rfl) (by rfl) T.z_all (by decide +kernel) (pa_cons (pe_lc (own := [("name", 3), ("item", 4)]) (g := gTup K 2 (gCons (gName 3) (gCons (gName 4) gNil))) (tt := tYes) rfl sc_is_filling_of.nd (RZ.pi_zipA (by rfl) T.z_zip (pa_cons (pv 1) (pa_cons (pv 2) pa_nil))) (blkOk_by (N := ["width", "names", "value", "name", "item"]) (sc := defScope s_is_filling_of) (by decide +kernel)) (fun _ _ _ _ _ => (pg_tup (by rfl) (pgs_cons (pg_name (i := 3) sc_is_filling_of.nd rfl (Or.inl rfl)) (pgs_cons (pg_name (i := 4) sc_is_filling_of.nd rfl (Or.inl rfl)) pgs_nil)))) (fun _ _ _ _ _ => pts_nil) (fun _ _ _ _ _ => (pe_g G_is_filled gd (hr.mono (by decide)) (by rfl) T.g_is_filled T.F_is_filled.kp T.b_is_filled .nil pass0 (pa_cons (pv 0) (pa_cons (pv 3) (pa_cons (pv 4) pa_nil)))))) pa_nil))))), ?_⟩
  rintro _ _ hd ⟨wd, kvs, ns, rfl, hw, hn, hf, hl, rfl⟩
  refine SX.seq (SX.ifS (b := false) ((TX.or (TX.not (TX.tB (EX.isi (EX.var rfl) (kit_list (.list (kvs.map tiD)))))) fun _ => TX.test (EX.neI (EX.lenL (EX.var rfl)) (EX.lenL (EX.var rfl)))).cast ?_) (fun z => nomatch z) fun _ => SX.next ?_)
  · rw [List.length_map, List.length_map, List.length_map, decide_eq_true rfl]; rfl
  refine SX.ret ((EX.all (bs := kvs.map fun _ => true) ((EX.lcA (xs := kvs) (emb := fun p => Sl.dat (.tuple [.str p.1, tiD p])) (by rw [← zip_ti]; exact IT.zipA (EAX.cons (EX.var rfl) (EAX.cons (EX.var rfl) EAX.nil))) (TgOk.tup (TgsOk.cons (by simp) (TgsOk.cons (by simp) TgsOk.nil))) (fun _ => .bool true) (by omega) fun p hp D ds => GX.tup rfl (GXs.cons (GX.name (GXs.cons (GX.name (GXs.nil ⟨⟨rfl, rfl, rfl, rfl⟩, ?_⟩)))))).dat (by rw [List.map_map]; rfl))).dat (congrArg PyData.bool (List.all_eq_true.mpr fun b hb => by obtain ⟨_, _, rfl⟩ := List.mem_map.mp hb; rfl))) ⟨rfl, rfl, rfl⟩
  obtain ⟨z, i⟩ := p
  obtain ⟨h1, v, h2, h3⟩ := hf _ hp
  cases (show i = (v : Int) from h2)
  exact EX.callR (ds := [.int (wd : Int), .str z, tiD (z, (v : Int))]) (EAX.cons (EX.var rfl) (EAX.cons (EX.var rfl) (EAX.cons (EX.var rfl) EAX.nil))) ⟨wd, v, z, ns, rfl, hw, h3, hn, h1, rfl⟩
theorem ok_check_filling (T : Tx w K mg) : FnG P w K mg base CX0 6 T.a_check_filling T.d_check_filling ["width", "names", "filling"] (spR fun ds r => ∃ (wd : Nat) (kvs : List (Str × Int)) (ns : List Str), ds = [.int (wd : Int), .list ((kvs.map (·.1)).map .str), .list (kvs.map tiD)] ∧ wd ≤ 64 ∧ Nn ns ∧ Filled wd ns kvs ∧ kvs.length ≤ 1000 ∧ r = .none) := by
  have G_is_filling_of := ok_is_filling_of (P := P) (w := w) (base := base) T
  refine bodyR T.F_check_filling sc_check_filling (fun ds r h => by obtain ⟨wd, kvs, ns, rfl, _⟩ := h; rfl) fun cdv A outer s H E gd hr => ⟨_, (pss_one (ps_if (pt_not (pt_val (pe_g G_is_filling_of gd (hr.mono (by decide)) (by rfl) T.g_is_filling_of T.F_is_filling_of.kp T.b_is_filling_of .nil pass0 (pa_cons (pv 0) (pa_cons (pv 1) (pa_cons (pv 2) pa_nil)))))) (pss_one ps_never) pss_nil)), ?_⟩
  rintro _ _ hd ⟨wd, kvs, ns, rfl, hw, hn, hf, hl, rfl⟩
  exact SX.ifS (b := false) (TX.not (b := true) (TX.tB (EX.callR (ds := [.int (wd : Int), .list ((kvs.map (·.1)).map .str), .list (kvs.map tiD)]) (EAX.cons (EX.var rfl) (EAX.cons (EX.var rfl) (EAX.cons (EX.var rfl) EAX.nil))) ⟨wd, kvs, ns, rfl, hw, hn, hf, hl, rfl⟩))) (fun z => nomatch z) fun _ => SX.next ⟨rfl, rfl, rfl⟩
/-- before the word is cut off -/
def pl (wd : Nat) (ρ : Str → Nat) : Et → Int
  | .int i => i
  | .nm _ => 0
  | .turned a => -1 - ((lvN wd ρ a : Nat) : Int)
  | .times i a => i * ((lvN wd ρ a : Nat) : Int)
  | .up k a => ((lvN wd ρ a : Nat) : Int) * 2 ^ (min k wd)
  | .down k a => ((lvN wd ρ a : Nat) : Int) / 2 ^ (min k wd)
  | .bin .plus a b => ((lvN wd ρ a : Nat) : Int) + ((lvN wd ρ b : Nat) : Int)
  | .bin .minus a b => ((lvN wd ρ a : Nat) : Int) - ((lvN wd ρ b : Nat) : Int)
  | .bin .both a b => ((lvN wd ρ a &&& lvN wd ρ b : Nat) : Int)
  | .bin .either a b => ((lvN wd ρ a ||| lvN wd ρ b : Nat) : Int)
  | .bin .unlike a b => ((lvN wd ρ a ^^^ lvN wd ρ b : Nat) : Int)
theorem pl_mod {wd : Nat} {ρ : Str → Nat} {ns : List Str} (hr : ∀ z ∈ ns, ρ z < 2 ^ wd) (e : Et) (he : e.ok ns) (h : ∀ z, e ≠ .nm z) : pl wd ρ e % 2 ^ wd = ((lvN wd ρ e : Nat) : Int) := by
  have hl := lvN_lt hr
  have pc := p2cast wd
  have same : ∀ n : Nat, n < 2 ^ wd → (n : Int) % 2 ^ wd = (n : Int) := fun n hn => by
    rw [← pc, ← Int.natCast_emod, Nat.mod_eq_of_lt hn]
  cases e with
  | int i => exact (emod_nat i wd).symm
  | nm z => exact absurd rfl (h z)
  | turned a =>
    have := hl a he
    show (-1 - ((lvN wd ρ a : Nat) : Int)) % 2 ^ wd = ((2 ^ wd - 1 - lvN wd ρ a : Nat) : Int)
    rw [← Int.add_emod_right, ← pc, show -1 - ((lvN wd ρ a : Nat) : Int) + ((2 ^ wd : Nat) : Int) = ((2 ^ wd - 1 - lvN wd ρ a : Nat) : Int) by omega, pc]
    exact same _ (by omega)
  | times i a =>
    show (i * ((lvN wd ρ a : Nat) : Int)) % 2 ^ wd = (((((lvN wd ρ a : Nat) : Int) * i % 2 ^ wd).toNat : Nat) : Int)
    rw [emod_nat, Int.mul_comm]
  | up k a =>
    show (((lvN wd ρ a : Nat) : Int) * 2 ^ (min k wd)) % 2 ^ wd = ((lvN wd ρ a * 2 ^ k % 2 ^ wd : Nat) : Int)
    rw [← p2cast (min k wd), ← Int.natCast_mul, ← pc, ← Int.natCast_emod]
    congr 1
    rcases Nat.le_total k wd with hk | hk
    · rw [Nat.min_eq_left hk]
    · rw [Nat.min_eq_right hk, Nat.mul_mod_left]
      obtain ⟨m, rfl⟩ : ∃ m, k = wd + m := ⟨k - wd, by omega⟩
      rw [Nat.pow_add, ← Nat.mul_assoc, Nat.mul_right_comm, Nat.mul_mod_left]
  | down k a =>
    have la := hl a he.2
    show (((lvN wd ρ a : Nat) : Int) / 2 ^ (min k wd)) % 2 ^ wd = ((lvN wd ρ a / 2 ^ k : Nat) : Int)
    rw [← p2cast (min k wd), ← Int.natCast_ediv]
    have d : lvN wd ρ a / 2 ^ (min k wd) = lvN wd ρ a / 2 ^ k := by
      rcases Nat.le_total k wd with hk | hk
      · rw [Nat.min_eq_left hk]
      · rw [Nat.min_eq_right hk, Nat.div_eq_of_lt la, Nat.div_eq_of_lt (Nat.lt_of_lt_of_le la (Nat.pow_le_pow_right (by decide) hk))]
    rw [d]
    exact same _ (Nat.lt_of_le_of_lt (Nat.div_le_self _ _) la)
  | bin o a b =>
    have la := hl a he.1
    have lb := hl b he.2
    have lo := hl _ he
    cases o with
    | plus =>
      show (((lvN wd ρ a : Nat) : Int) + ((lvN wd ρ b : Nat) : Int)) % 2 ^ wd = (((lvN wd ρ a + lvN wd ρ b) % 2 ^ wd : Nat) : Int)
      rw [Int.natCast_emod, Int.natCast_add, pc]
    | minus => exact (emod_nat _ wd).symm
    | both => exact same _ lo
    | either => exact same _ lo
    | unlike => exact same _ lo
def spPl (n : Nat) : Sp := spR fun ds r => ∃ (wd : Nat) (e : Et) (kvs : List (Str × Int)) (ns : List Str), ds = [.int (wd : Int), e.d, dictD kvs] ∧ wd ≤ 64 ∧ e.ok ns ∧ e.depth ≤ n ∧ n ≤ 10 ∧ (∀ z ∈ ns, ∃ v : Nat, kvs.lookup z = some (v : Int) ∧ v < 2 ^ wd) ∧ (∀ z, e ≠ .nm z) ∧ r = .int (pl wd (rho kvs) e)
theorem min_if (k wd : Nat) : (if ((wd : Int)) < (k : Int) then (wd : Int) else (k : Int)) = ((min k wd : Nat) : Int) := by
  split <;> omega
theorem shl_ok {x : Int} {m : Nat} (h : x.natAbs < 2 ^ 64) (hm : m ≤ 64) : CShl x (m : Int) := ⟨Int.natCast_nonneg _, by
  have := PyProof.Rows.intBits_le h
  omega⟩
theorem plain_one (T : Tx w K mg) (n j : Nat) (G_value_with : FnG P w K mg base CX0 j T.a_value_with T.d_value_with ["width", "expression", "words"] (match n with | 0 => spR fun _ _ => False | n + 1 => spVal n)) : FnG P w K mg base CX0 (j + 1) T.a_plain_value T.d_plain_value ["width", "expression", "words"] (spPl n) := by
  refine bodyR T.F_plain_value sc_plain_value (fun ds r h => by obtain ⟨wd, e, kvs, ns, rfl, _⟩ := h; rfl) fun cdv A outer s H E gd hr => ⟨_, (pss_cons (ps_if (pt_not (pt_val (pe_callB call_isD (by rfl) T.z_isinstance (by decide +kernel) (pa_cons (pv 1) (pa_cons (pe_bltn (v := .ty "tuple") (by rfl) T.z_tuple (by decide +kernel) rfl) pa_nil))))) (pss_one (ps_ret (pv 1))) pss_nil)
      (pss_cons (ps_set (i := 3) sc_plain_value.nd rfl (Or.inl rfl) (pe_ix (ix_seqK (K := K) rfl) (pv 1) pe_int (fun _ _ => rfl)))
      (pss_cons (ps_set (i := 4) sc_plain_value.nd rfl (Or.inl rfl) (pe_g G_value_with gd (hr.mono (by omega)) (by rfl) T.g_value_with T.F_value_with.kp T.b_value_with .nil pass0 (pa_cons (pv 0) (pa_cons (pe_ix (ix_seqK (K := K) rfl) (pv 1) (pe_un un_neg pe_int) (fun _ _ => rfl)) (pa_cons (pv 2) pa_nil)))))
      (pss_cons (ps_if (pt_cmpR op_eq (pv 3) pe_str (nomark _)) (pss_one (ps_ret (pe_op op_sub (pe_un un_neg pe_int) (pv 4)))) pss_nil)
      (pss_cons (ps_if (pt_cmpR op_eq (pv 3) pe_str (nomark _)) (pss_one (ps_ret (pe_op op_mulX (pe_ix (ix_seqK (K := K) rfl) (pv 1) pe_int (fun _ _ => rfl)) (pv 4)))) pss_nil)
      (pss_cons (ps_if (pt_cmpR op_eq (pv 3) pe_str (nomark _)) (pss_one (ps_ret (pe_op op_shlW (pv 4) (pe_callB (call_min2 rfl) (by rfl) T.z_min (by decide +kernel) (pa_cons (pe_ix (ix_seqK (K := K) rfl) (pv 1) pe_int (fun _ _ => rfl)) (pa_cons (pv 0) pa_nil)))))) pss_nil)
      (pss_cons (ps_if (pt_cmpR op_eq (pv 3) pe_str (nomark _)) (pss_one (ps_ret (pe_op op_shr (pv 4) (pe_callB (call_min2 rfl) (by rfl) T.z_min (by decide +kernel) (pa_cons (pe_ix (ix_seqK (K := K) rfl) (pv 1) pe_int (fun _ _ => rfl)) (pa_cons (pv 0) pa_nil)))))) pss_nil)
      (pss_cons (ps_set (i := 5) sc_plain_value.nd rfl (Or.inl rfl) (pe_g G_value_with gd (hr.mono (by omega)) (by rfl) T.g_value_with T.F_value_with.kp T.b_value_with .nil pass0 (pa_cons (pv 0) (pa_cons (pe_ix (ix_seqK (K := K) rfl) (pv 1) pe_int (fun _ _ => rfl)) (pa_cons (pv 2) pa_nil)))))
      (pss_cons (ps_if (pt_cmpR op_eq (pv 3) pe_str (nomark _)) (pss_one (ps_ret (pe_op op_add (pv 5) (pv 4)))) pss_nil)
      (pss_cons (ps_if (pt_cmpR op_eq (pv 3) pe_str (nomark _)) (pss_one (ps_ret (pe_op op_sub (pv 5) (pv 4)))) pss_nil)
      (pss_cons (ps_if (pt_cmpR op_eq (pv 3) pe_str (nomark _)) (pss_one (ps_ret (pe_op op_and (pv 5) (pv 4)))) pss_nil)
      (pss_cons (ps_if (pt_cmpR op_eq (pv 3) pe_str (nomark _)) (pss_one (ps_ret (pe_op op_or (pv 5) (pv 4)))) pss_nil)
      (pss_one (ps_ret (pe_op op_xor (pv 5) (pv 4)))))))))))))))), ?_⟩
  rintro _ _ hd ⟨wd, e, kvs, ns, rfl, hw, he, hde, hn, hk, hnm, rfl⟩
  have hl : ∀ a : Et, a.ok ns → lvN wd (rho kvs) a < 2 ^ wd := lvN_lt fun z hz => by
    obtain ⟨v, h1, h2⟩ := hk z hz
    rw [rho_of h1]; exact h2
  have w64 : (2 : Nat) ^ wd ≤ 2 ^ 64 := Nat.pow_le_pow_right (by decide) hw
  have small : ∀ a : Et, a.ok ns → ((lvN wd (rho kvs) a : Nat) : Int).natAbs < 2 ^ 64 := fun a ha => by have := hl a ha; omega
  refine SX.seq (SX.ifS (TX.not (TX.tB (EX.isi (EX.var rfl) (kit_tuple e.d)))) (fun h => ?_) fun h => ?_)
  · cases e with
    | int i => exact SX.ret (EX.var rfl) ⟨rfl, rfl, rfl⟩
    | nm z => exact absurd rfl (hnm z)
    | _ => cases h
  refine SX.next ?_
  cases n with
  | zero =>
    cases e with
    | int i => cases h
    | nm z => cases h
    | turned a => exact absurd hde (Nat.not_succ_le_zero _)
    | times i a => exact absurd hde (Nat.not_succ_le_zero _)
    | up i a => exact absurd hde (Nat.not_succ_le_zero _)
    | down i a => exact absurd hde (Nat.not_succ_le_zero _)
    | bin o a b => exact absurd hde (Nat.not_succ_le_zero _)
  | succ n =>
    have rc : ∀ (a : Et) (g : GS) (t1 t2 t3 : TE) , a.ok ns → a.depth ≤ n → EX t1 g (.dat (.int (wd : Int))) → EX t2 g (.dat a.d) → EX t3 g (.dat (dictD kvs)) → EX (tCall (spVal n) [] E0 (tCons t1 (tCons t2 (tCons t3 tNil)))) g (.dat (.int ((lvN wd (rho kvs) a : Nat) : Int))) := fun a g t1 t2 t3 ha hda e1 e2 e3 =>
      EX.callR (ds := [.int (wd : Int), a.d, dictD kvs]) (EAX.cons e1 (EAX.cons e2 (EAX.cons e3 EAX.nil))) ⟨wd, a, kvs, ns, rfl, hw, ha, hda, by omega, hk, rfl⟩
    have w0 : ∀ (z : Str) (r : List PyData) (g : GS), g.sl[1]? = some (.dat (.tuple (.str z :: r))) → EX (tOp (rIx K) (tVar 1) (tC (.int 0))) g (.dat (.str z)) := fun z r g hg => EX.ixQ (EX.var hg) (EX.int 0) (.inr rfl) (atI_nat (j := 0) rfl)
    have mn : ∀ (k m : Nat) (g : GS) (t1 t2 : TE), EX t1 g (.dat (.int (k : Int))) → EX t2 g (.dat (.int (wd : Int))) → EX (tCB (fun xs H Q => ∃ i j, xs = [.int i, .int j] ∧ Q (.int (if j < i then j else i)) H) (tCons t1 (tCons t2 tNil))) g (.dat (.int ((min k wd : Nat) : Int))) := fun k m g t1 t2 e1 e2 => (EX.min2 e1 e2).dat (congrArg PyData.int (min_if k wd))
    cases e with
    | int i => cases h
    | nm z => cases h
    | turned a =>
      have hda := Nat.le_of_succ_le_succ hde
      refine SX.seq (SX.set (w0 "turned" _ _ rfl) ?_)
      refine SX.seq (SX.set (rc a _ _ _ _ he hda (EX.var rfl) (EX.ixQ (d := a.d) (EX.var rfl) (EX.neg (EX.int 1)) (.inr rfl) rfl) (EX.var rfl)) ?_)
      refine SX.seq (SX.ifS (b := true) ((TX.test (EX.eqS (EX.var rfl) (EX.str _))).cast (by decide)) (fun _ => ?_) fun z => nomatch z)
      exact SX.ret (EX.i0 (EX.neg (EX.int 1)) (EX.var rfl)) ⟨rfl, rfl, rfl⟩
    | times i a =>
      have hda := Nat.le_of_succ_le_succ hde
      refine SX.seq (SX.set (w0 "times" _ _ rfl) ?_)
      refine SX.seq (SX.set (rc a _ _ _ _ he.2 hda (EX.var rfl) (EX.ixQ (d := a.d) (EX.var rfl) (EX.neg (EX.int 1)) (.inr rfl) rfl) (EX.var rfl)) ?_)
      refine SX.seq (SX.ifS (b := false) ((TX.test (EX.eqS (EX.var rfl) (EX.str _))).cast (by decide)) (fun z => nomatch z) fun _ => SX.next ?_)
      refine SX.seq (SX.ifS (b := true) ((TX.test (EX.eqS (EX.var rfl) (EX.str _))).cast (by decide)) (fun _ => ?_) fun z => nomatch z)
      exact SX.ret (EX.iC (EX.ixQ (d := .int i) (EX.var rfl) (EX.int 1) (.inr rfl) (atI_nat (j := 1) rfl)) (EX.var rfl) (mulx_ok (a := 20) (b := 64) (by have := he.1; omega) (small a he.2) (by omega))) ⟨rfl, rfl, rfl⟩
    | up k a =>
      have hda := Nat.le_of_succ_le_succ hde
      refine SX.seq (SX.set (w0 "up" _ _ rfl) ?_)
      refine SX.seq (SX.set (rc a _ _ _ _ he.2 hda (EX.var rfl) (EX.ixQ (d := a.d) (EX.var rfl) (EX.neg (EX.int 1)) (.inr rfl) rfl) (EX.var rfl)) ?_)
      refine SX.seq (SX.ifS (b := false) ((TX.test (EX.eqS (EX.var rfl) (EX.str _))).cast (by decide)) (fun z => nomatch z) fun _ => SX.next ?_)
      refine SX.seq (SX.ifS (b := false) ((TX.test (EX.eqS (EX.var rfl) (EX.str _))).cast (by decide)) (fun z => nomatch z) fun _ => SX.next ?_)
      refine SX.seq (SX.ifS (b := true) ((TX.test (EX.eqS (EX.var rfl) (EX.str _))).cast (by decide)) (fun _ => ?_) fun z => nomatch z)
      exact SX.ret ((EX.iC (C := CShl) (f := fun i j => i * 2 ^ j.toNat) (EX.var rfl) (mn k 0 _ _ _ (EX.ixQ (d := .int (k : Int)) (EX.var rfl) (EX.int 1) (.inr rfl) (atI_nat (j := 1) rfl)) (EX.var rfl)) (shl_ok (small a he.2) (by omega))).dat (by rw [Int.toNat_natCast]; rfl)) ⟨rfl, rfl, rfl⟩
    | down k a =>
      have hda := Nat.le_of_succ_le_succ hde
      refine SX.seq (SX.set (w0 "down" _ _ rfl) ?_)
      refine SX.seq (SX.set (rc a _ _ _ _ he.2 hda (EX.var rfl) (EX.ixQ (d := a.d) (EX.var rfl) (EX.neg (EX.int 1)) (.inr rfl) rfl) (EX.var rfl)) ?_)
      refine SX.seq (SX.ifS (b := false) ((TX.test (EX.eqS (EX.var rfl) (EX.str _))).cast (by decide)) (fun z => nomatch z) fun _ => SX.next ?_)
      refine SX.seq (SX.ifS (b := false) ((TX.test (EX.eqS (EX.var rfl) (EX.str _))).cast (by decide)) (fun z => nomatch z) fun _ => SX.next ?_)
      refine SX.seq (SX.ifS (b := false) ((TX.test (EX.eqS (EX.var rfl) (EX.str _))).cast (by decide)) (fun z => nomatch z) fun _ => SX.next ?_)
      refine SX.seq (SX.ifS (b := true) ((TX.test (EX.eqS (EX.var rfl) (EX.str _))).cast (by decide)) (fun _ => ?_) fun z => nomatch z)
      exact SX.ret ((EX.iC (C := fun _ j => 0 ≤ j) (f := fun i j => i / 2 ^ j.toNat) (EX.var rfl) (mn k 0 _ _ _ (EX.ixQ (d := .int (k : Int)) (EX.var rfl) (EX.int 1) (.inr rfl) (atI_nat (j := 1) rfl)) (EX.var rfl)) (Int.natCast_nonneg _)).dat (by rw [Int.toNat_natCast]; rfl)) ⟨rfl, rfl, rfl⟩
    | bin o a b =>
      have hde : max a.depth b.depth ≤ n := Nat.le_of_succ_le_succ hde
      cases o with
      | plus =>
        refine SX.seq (SX.set (w0 "plus" _ _ rfl) ?_)
        refine SX.seq (SX.set (rc b _ _ _ _ he.2 (by omega) (EX.var rfl) (EX.ixQ (d := b.d) (EX.var rfl) (EX.neg (EX.int 1)) (.inr rfl) rfl) (EX.var rfl)) ?_)
        refine SX.seq (SX.ifS (b := false) ((TX.test (EX.eqS (EX.var rfl) (EX.str _))).cast (by decide)) (fun z => nomatch z) fun _ => SX.next ?_)
        refine SX.seq (SX.ifS (b := false) ((TX.test (EX.eqS (EX.var rfl) (EX.str _))).cast (by decide)) (fun z => nomatch z) fun _ => SX.next ?_)
        refine SX.seq (SX.ifS (b := false) ((TX.test (EX.eqS (EX.var rfl) (EX.str _))).cast (by decide)) (fun z => nomatch z) fun _ => SX.next ?_)
        refine SX.seq (SX.ifS (b := false) ((TX.test (EX.eqS (EX.var rfl) (EX.str _))).cast (by decide)) (fun z => nomatch z) fun _ => SX.next ?_)
        refine SX.seq (SX.set (rc a _ _ _ _ he.1 (by omega) (EX.var rfl) (EX.ixQ (d := a.d) (EX.var rfl) (EX.int 1) (.inr rfl) (atI_nat (j := 1) rfl)) (EX.var rfl)) ?_)
        refine SX.seq (SX.ifS (b := true) ((TX.test (EX.eqS (EX.var rfl) (EX.str _))).cast (by decide)) (fun _ => ?_) fun z => nomatch z)
        exact SX.ret (EX.i0 (EX.var rfl) (EX.var rfl)) ⟨rfl, rfl, rfl⟩
      | minus =>
        refine SX.seq (SX.set (w0 "minus" _ _ rfl) ?_)
        refine SX.seq (SX.set (rc b _ _ _ _ he.2 (by omega) (EX.var rfl) (EX.ixQ (d := b.d) (EX.var rfl) (EX.neg (EX.int 1)) (.inr rfl) rfl) (EX.var rfl)) ?_)
        refine SX.seq (SX.ifS (b := false) ((TX.test (EX.eqS (EX.var rfl) (EX.str _))).cast (by decide)) (fun z => nomatch z) fun _ => SX.next ?_)
        refine SX.seq (SX.ifS (b := false) ((TX.test (EX.eqS (EX.var rfl) (EX.str _))).cast (by decide)) (fun z => nomatch z) fun _ => SX.next ?_)
        refine SX.seq (SX.ifS (b := false) ((TX.test (EX.eqS (EX.var rfl) (EX.str _))).cast (by decide)) (fun z => nomatch z) fun _ => SX.next ?_)
        refine SX.seq (SX.ifS (b := false) ((TX.test (EX.eqS (EX.var rfl) (EX.str _))).cast (by decide)) (fun z => nomatch z) fun _ => SX.next ?_)
        refine SX.seq (SX.set (rc a _ _ _ _ he.1 (by omega) (EX.var rfl) (EX.ixQ (d := a.d) (EX.var rfl) (EX.int 1) (.inr rfl) (atI_nat (j := 1) rfl)) (EX.var rfl)) ?_)
        refine SX.seq (SX.ifS (b := false) ((TX.test (EX.eqS (EX.var rfl) (EX.str _))).cast (by decide)) (fun z => nomatch z) fun _ => SX.next ?_)
        refine SX.seq (SX.ifS (b := true) ((TX.test (EX.eqS (EX.var rfl) (EX.str _))).cast (by decide)) (fun _ => ?_) fun z => nomatch z)
        exact SX.ret (EX.i0 (EX.var rfl) (EX.var rfl)) ⟨rfl, rfl, rfl⟩
      | both =>
        refine SX.seq (SX.set (w0 "both" _ _ rfl) ?_)
        refine SX.seq (SX.set (rc b _ _ _ _ he.2 (by omega) (EX.var rfl) (EX.ixQ (d := b.d) (EX.var rfl) (EX.neg (EX.int 1)) (.inr rfl) rfl) (EX.var rfl)) ?_)
        refine SX.seq (SX.ifS (b := false) ((TX.test (EX.eqS (EX.var rfl) (EX.str _))).cast (by decide)) (fun z => nomatch z) fun _ => SX.next ?_)
        refine SX.seq (SX.ifS (b := false) ((TX.test (EX.eqS (EX.var rfl) (EX.str _))).cast (by decide)) (fun z => nomatch z) fun _ => SX.next ?_)
        refine SX.seq (SX.ifS (b := false) ((TX.test (EX.eqS (EX.var rfl) (EX.str _))).cast (by decide)) (fun z => nomatch z) fun _ => SX.next ?_)
        refine SX.seq (SX.ifS (b := false) ((TX.test (EX.eqS (EX.var rfl) (EX.str _))).cast (by decide)) (fun z => nomatch z) fun _ => SX.next ?_)
        refine SX.seq (SX.set (rc a _ _ _ _ he.1 (by omega) (EX.var rfl) (EX.ixQ (d := a.d) (EX.var rfl) (EX.int 1) (.inr rfl) (atI_nat (j := 1) rfl)) (EX.var rfl)) ?_)
        refine SX.seq (SX.ifS (b := false) ((TX.test (EX.eqS (EX.var rfl) (EX.str _))).cast (by decide)) (fun z => nomatch z) fun _ => SX.next ?_)
        refine SX.seq (SX.ifS (b := false) ((TX.test (EX.eqS (EX.var rfl) (EX.str _))).cast (by decide)) (fun z => nomatch z) fun _ => SX.next ?_)
        refine SX.seq (SX.ifS (b := true) ((TX.test (EX.eqS (EX.var rfl) (EX.str _))).cast (by decide)) (fun _ => ?_) fun z => nomatch z)
        exact SX.ret ((EX.i0 (EX.var rfl) (EX.var rfl)).dat (congrArg PyData.int (band_nat _ _))) ⟨rfl, rfl, rfl⟩
      | either =>
        refine SX.seq (SX.set (w0 "either" _ _ rfl) ?_)
        refine SX.seq (SX.set (rc b _ _ _ _ he.2 (by omega) (EX.var rfl) (EX.ixQ (d := b.d) (EX.var rfl) (EX.neg (EX.int 1)) (.inr rfl) rfl) (EX.var rfl)) ?_)
        refine SX.seq (SX.ifS (b := false) ((TX.test (EX.eqS (EX.var rfl) (EX.str _))).cast (by decide)) (fun z => nomatch z) fun _ => SX.next ?_)
        refine SX.seq (SX.ifS (b := false) ((TX.test (EX.eqS (EX.var rfl) (EX.str _))).cast (by decide)) (fun z => nomatch z) fun _ => SX.next ?_)
        refine SX.seq (SX.ifS (b := false) ((TX.test (EX.eqS (EX.var rfl) (EX.str _))).cast (by decide)) (fun z => nomatch z) fun _ => SX.next ?_)
        refine SX.seq (SX.ifS (b := false) ((TX.test (EX.eqS (EX.var rfl) (EX.str _))).cast (by decide)) (fun z => nomatch z) fun _ => SX.next ?_)
        refine SX.seq (SX.set (rc a _ _ _ _ he.1 (by omega) (EX.var rfl) (EX.ixQ (d := a.d) (EX.var rfl) (EX.int 1) (.inr rfl) (atI_nat (j := 1) rfl)) (EX.var rfl)) ?_)
        refine SX.seq (SX.ifS (b := false) ((TX.test (EX.eqS (EX.var rfl) (EX.str _))).cast (by decide)) (fun z => nomatch z) fun _ => SX.next ?_)
        refine SX.seq (SX.ifS (b := false) ((TX.test (EX.eqS (EX.var rfl) (EX.str _))).cast (by decide)) (fun z => nomatch z) fun _ => SX.next ?_)
        refine SX.seq (SX.ifS (b := false) ((TX.test (EX.eqS (EX.var rfl) (EX.str _))).cast (by decide)) (fun z => nomatch z) fun _ => SX.next ?_)
        refine SX.seq (SX.ifS (b := true) ((TX.test (EX.eqS (EX.var rfl) (EX.str _))).cast (by decide)) (fun _ => ?_) fun z => nomatch z)
        exact SX.ret ((EX.i0 (EX.var rfl) (EX.var rfl)).dat (congrArg PyData.int (bor_nat _ _))) ⟨rfl, rfl, rfl⟩
      | unlike =>
        refine SX.seq (SX.set (w0 "unlike" _ _ rfl) ?_)
        refine SX.seq (SX.set (rc b _ _ _ _ he.2 (by omega) (EX.var rfl) (EX.ixQ (d := b.d) (EX.var rfl) (EX.neg (EX.int 1)) (.inr rfl) rfl) (EX.var rfl)) ?_)
        refine SX.seq (SX.ifS (b := false) ((TX.test (EX.eqS (EX.var rfl) (EX.str _))).cast (by decide)) (fun z => nomatch z) fun _ => SX.next ?_)
        refine SX.seq (SX.ifS (b := false) ((TX.test (EX.eqS (EX.var rfl) (EX.str _))).cast (by decide)) (fun z => nomatch z) fun _ => SX.next ?_)
        refine SX.seq (SX.ifS (b := false) ((TX.test (EX.eqS (EX.var rfl) (EX.str _))).cast (by decide)) (fun z => nomatch z) fun _ => SX.next ?_)
        refine SX.seq (SX.ifS (b := false) ((TX.test (EX.eqS (EX.var rfl) (EX.str _))).cast (by decide)) (fun z => nomatch z) fun _ => SX.next ?_)
        refine SX.seq (SX.set (rc a _ _ _ _ he.1 (by omega) (EX.var rfl) (EX.ixQ (d := a.d) (EX.var rfl) (EX.int 1) (.inr rfl) (atI_nat (j := 1) rfl)) (EX.var rfl)) ?_)
        refine SX.seq (SX.ifS (b := false) ((TX.test (EX.eqS (EX.var rfl) (EX.str _))).cast (by decide)) (fun z => nomatch z) fun _ => SX.next ?_)
        refine SX.seq (SX.ifS (b := false) ((TX.test (EX.eqS (EX.var rfl) (EX.str _))).cast (by decide)) (fun z => nomatch z) fun _ => SX.next ?_)
        refine SX.seq (SX.ifS (b := false) ((TX.test (EX.eqS (EX.var rfl) (EX.str _))).cast (by decide)) (fun z => nomatch z) fun _ => SX.next ?_)
        refine SX.seq (SX.ifS (b := false) ((TX.test (EX.eqS (EX.var rfl) (EX.str _))).cast (by decide)) (fun z => nomatch z) fun _ => SX.next ?_)
        exact SX.ret ((EX.i0 (EX.var rfl) (EX.var rfl)).dat (congrArg PyData.int (bxor_nat _ _))) ⟨rfl, rfl, rfl⟩
theorem vw_one (T : Tx w K mg) (n j : Nat) (G_plain_value : FnG P w K mg base CX0 j T.a_plain_value T.d_plain_value ["width", "expression", "words"] (spPl n)) : FnG P w K mg base CX0 (j + 1) T.a_value_with T.d_value_with ["width", "expression", "words"] (spVal n) := by
  refine bodyR T.F_value_with sc_value_with (fun ds r h => by obtain ⟨wd, e, kvs, ns, rfl, _⟩ := h; rfl) fun cdv A outer s H E gd hr => ⟨_, (pss_cons (ps_if (pt_val (pe_callB call_isD (by rfl) T.z_isinstance (by decide +kernel) (pa_cons (pv 1) (pa_cons (pe_bltn (v := .ty "str") (by rfl) T.z_str (by decide +kernel) rfl) pa_nil)))) (pss_one (ps_ret (pe_dget (hu_of hr) (pv 2) (pv 1) (fun _ _ => rfl)))) pss_nil)
      (pss_one (ps_ret (pe_op op_andM (pe_g G_plain_value gd (hr.mono (by omega)) (by rfl) T.g_plain_value T.F_plain_value.kp T.b_plain_value .nil pass0 (pa_cons (pv 0) (pa_cons (pv 1) (pa_cons (pv 2) pa_nil)))) (pe_op op_sub (pe_op op_shlW pe_int (pv 0)) pe_int))))), ?_⟩
  rintro _ _ hd ⟨wd, e, kvs, ns, rfl, hw, he, hde, hn, hk, rfl⟩
  refine SX.seq (SX.ifS (TX.tB (EX.isi (EX.var rfl) (kit_str e.d))) (fun h => ?_) fun h => ?_)
  · cases e with
    | nm z =>
      obtain ⟨v, h1, h2⟩ := hk z he
      refine SX.ret (EX.dget (kvs := kvs) (z := z) (i := (v : Int)) (EX.var rfl) (EX.var rfl) h1) ⟨?_, rfl, rfl⟩
      show Sl.dat (.int (v : Int)) = .dat (.int ((rho kvs z : Nat) : Int))
      rw [rho_of h1]
    | _ => cases h
  have hnm : ∀ z, e ≠ .nm z := fun z hz => by subst hz; cases h
  have hr' : ∀ z ∈ ns, rho kvs z < 2 ^ wd := fun z hz => by
    obtain ⟨v, h1, h2⟩ := hk z hz
    rw [rho_of h1]; exact h2
  refine SX.next (SX.ret ((EX.andM (k := wd) (EX.callR (d := .int (pl wd (rho kvs) e)) (ds := [.int (wd : Int), e.d, dictD kvs]) (EAX.cons (EX.var rfl) (EAX.cons (EX.var rfl) (EAX.cons (EX.var rfl) EAX.nil))) ⟨wd, e, kvs, ns, rfl, hw, he, hde, hn, hk, hnm, rfl⟩) (EX.mask rfl hw)).dat (congrArg PyData.int (pl_mod hr' e he hnm))) ⟨rfl, rfl, rfl⟩)
theorem ok_value_with (T : Tx w K mg) : ∀ n : Nat, FnG P w K mg base CX0 (2 * n + 2) T.a_value_with T.d_value_with ["width", "expression", "words"] (spVal n)
  | 0 => vw_one T 0 1 (plain_one T 0 0 (neverR fun _ _ z => z))
  | n + 1 => vw_one T (n + 1) (2 * n + 3) (plain_one T (n + 1) (2 * n + 2) (ok_value_with T n))
theorem few_of {e : Et} {zs : List Str} (h : IsNames e zs) : zs.length ≤ e.nms.length := by
  have key : ∀ (a b : List Str), a.Nodup → (∀ z ∈ a, z ∈ b) → a.length ≤ b.length := by
    intro a
    induction a with
    | nil => intro b _ _; exact Nat.zero_le _
    | cons x r ih =>
      intro b nd s
      obtain ⟨n1, n2⟩ := List.nodup_cons.mp nd
      have hx := s x (List.mem_cons_self ..)
      have h1 := ih (b.erase x) n2 fun z hz => (List.mem_erase_of_ne fun (e : z = x) => n1 (e ▸ hz)).mpr (s z (List.mem_cons_of_mem _ hz))
      have h2 := List.length_erase_of_mem hx
      have h3 := List.length_pos_of_mem hx
      rw [List.length_cons]; omega
  exact key zs e.nms h.1 fun z hz => (h.2.2 z).mp hz
def spValue : Sp := spR fun ds r => ∃ (wd : Nat) (e : Et) (kvs : List (Str × Int)) (ns : List Str), ds = [.int (wd : Int), e.d, .list (kvs.map tiD)] ∧ wd ≤ 64 ∧ Nn ns ∧ e.ok ns ∧ e.depth ≤ 5 ∧ IsNames e (kvs.map (·.1)) ∧ Filled wd ns kvs ∧ r = .int ((lvN wd (rho kvs) e : Nat) : Int)
theorem filled_look {wd : Nat} {ns : List Str} {kvs : List (Str × Int)} {e : Et} (hz : IsNames e (kvs.map (·.1))) (hf : Filled wd ns kvs) : ∀ z ∈ e.nms, ∃ v : Nat, kvs.lookup z = some (v : Int) ∧ v < 2 ^ wd := fun z hm => by
  obtain ⟨p, hp, rfl⟩ := List.mem_map.mp ((hz.2.2 z).mpr hm)
  obtain ⟨_, v, h1, h2⟩ := hf p hp
  exact ⟨v, by rw [lookup_mem hz.1 hp, h1], h2⟩
theorem ok_value (T : Tx w K mg) : FnG P w K mg base CX0 21 T.a_value T.d_value ["width", "expression", "filling"] spValue := by
  have G_check_width := ok_check_width (P := P) (w := w) (base := base) T
  have G_check_expression := ok_check_expression (P := P) (w := w) (base := base) T
  have G_check_filling := ok_check_filling (P := P) (w := w) (base := base) T
  have G_names_of_expression := ok_names_of_expression (P := P) (w := w) (base := base) T
  have G_value_with := ok_value_with (P := P) (w := w) (base := base) T 5
  refine bodyR T.F_value sc_value (fun ds r h => by obtain ⟨wd, e, kvs, ns, rfl, _⟩ := h; rfl) fun cdv A outer s H E gd hr => ⟨_, (pss_cons (ps_expr (pe_g G_check_width gd (hr.mono (by decide)) (by rfl) T.g_check_width T.F_check_width.kp T.b_check_width .nil pass0 (pa_cons (pv 0) pa_nil)))
      (pss_cons (ps_expr (pe_g G_check_expression gd (hr.mono (by decide)) (by rfl) T.g_check_expression T.F_check_expression.kp T.b_check_expression .nil pass0 (pa_cons (pv 1) pa_nil)))
      (pss_cons (ps_expr (pe_g G_check_filling gd (hr.mono (by decide)) (by rfl) T.g_check_filling T.F_check_filling.kp T.b_check_filling .nil pass0 (pa_cons (pv 0) (pa_cons (pe_g G_names_of_expression gd (hr.mono (by decide)) (by rfl) T.g_names_of_expression T.F_names_of_expression.kp T.b_names_of_expression .nil pass0 (pa_cons (pv 1) pa_nil)) (pa_cons (pv 2) pa_nil)))))
      (pss_one (ps_ret (pe_g G_value_with gd (hr.mono (by decide)) (by rfl) T.g_value_with T.F_value_with.kp T.b_value_with .nil pass0 (pa_cons (pv 0) (pa_cons (pv 1) (pa_cons (pe_callTy (call_dictP rfl) (by rfl) T.z_dict (by decide +kernel) (pa_cons (pv 2) pa_nil)) pa_nil))))))))), ?_⟩
  rintro _ _ hd ⟨wd, e, kvs, ns, rfl, hw, hn, he, hde, hz, hf, rfl⟩
  have kl : kvs.length ≤ 1000 := by
    have h1 := Et.nms_len e 5 hde
    have h2 := few_of hz
    rw [List.length_map] at h2
    omega
  refine SX.seq (SX.drop (EX.callR (d := .none) (ds := [.int (wd : Int)]) (EAX.cons (EX.var rfl) EAX.nil) ⟨wd, rfl, hw, rfl⟩) ?_)
  refine SX.seq (SX.drop (EX.callR (d := .none) (ds := [e.d]) (EAX.cons (EX.var rfl) EAX.nil) ⟨e, ns, rfl, hn, he, hde, rfl⟩) ?_)
  refine SX.seq (SX.drop (EX.callR (d := .none) (ds := [.int (wd : Int), .list ((kvs.map (·.1)).map .str), .list (kvs.map tiD)]) (EAX.cons (EX.var rfl) (EAX.cons (EX.callR (ds := [e.d]) (EAX.cons (EX.var rfl) EAX.nil) ⟨e, ns, _, rfl, hn, he, hde, hz, rfl⟩) (EAX.cons (EX.var rfl) EAX.nil))) ⟨wd, kvs, ns, rfl, hw, hn, hf, kl, rfl⟩) ?_)
  exact SX.ret (EX.callR (ds := [.int (wd : Int), e.d, dictD kvs]) (EAX.cons (EX.var rfl) (EAX.cons (EX.var rfl) (EAX.cons (EX.dictP (EX.var rfl) hz.1) EAX.nil))) ⟨wd, e, kvs, e.nms, rfl, hw, Et.nms_ok e he, hde, by omega, filled_look hz hf, rfl⟩) ⟨rfl, rfl, rfl⟩
end

end K07

set_option Elab.async false
set_option linter.all false
set_option maxRecDepth 100000
set_option maxHeartbeats 4000000
namespace K07
open PySem PySem.Spec PyProof.Rows L2 Hw

section
variable {P : Program} {w : World} {K : PySem.W.Frag} {mg : Str → Option Value} {base : Heap}
theorem cut_two (x y : PyData) (r : List PyData) : Hw.cutD (x :: y :: r) (some 2) none = r := by
  unfold Hw.cutD
  rw [HT.sIx_none, show HT.sIx (x :: y :: r).length 0 (some 2) = min 2 (x :: y :: r).length from HT.sIx_nat _ _ 2, show min 2 (x :: y :: r).length = 2 by rw [List.length_cons, List.length_cons]; omega]
  show (r.take ((x :: y :: r).length - 2)) = r
  exact List.take_of_length_le (by rw [List.length_cons, List.length_cons]; omega)
theorem told_cut (e : Et) (h : isTuple e.d = true) : ∃ (z : Str) (ps : List PyData), e.d = .tuple (.str z :: ps) ∧ Hw.cutD (.str z :: ps) (some (if (["times", "up", "down"] : List Str).contains z = true then 2 else 1)) none = e.subs.map Et.d := by
  have h3 : ∀ z : Str, z = "times" ∨ z = "up" ∨ z = "down" → (["times", "up", "down"] : List Str).contains z = true := fun z hz => by rcases hz with rfl | rfl | rfl <;> decide +kernel
  cases e with
  | int i => cases h
  | nm z => cases h
  | turned a => exact ⟨"turned", [a.d], rfl, by rw [if_neg (by decide +kernel)]; exact cut_one _ _⟩
  | times i a => exact ⟨"times", [.int i, a.d], rfl, by rw [if_pos (h3 _ (.inl rfl))]; exact cut_two _ _ _⟩
  | up i a => exact ⟨"up", [.int (i : Int), a.d], rfl, by rw [if_pos (h3 _ (.inr (.inl rfl)))]; exact cut_two _ _ _⟩
  | down i a => exact ⟨"down", [.int (i : Int), a.d], rfl, by rw [if_pos (h3 _ (.inr (.inr rfl)))]; exact cut_two _ _ _⟩
  | bin o a b => exact ⟨o.w, [a.d, b.d], rfl, by rw [if_neg (by cases o <;> decide +kernel)]; exact cut_one _ _⟩
theorem told_one (T : Tx w K mg) (n j : Nat) (G_law_told_names : FnG P w K mg base CX0 j T.a_law_told_names T.d_law_told_names ["_law_told"] (match n with | 0 => spR fun _ _ => False | n + 1 => spNms n)) : FnG P w K mg base CX0 (j + 1) T.a_law_told_names T.d_law_told_names ["_law_told"] (spNms n) := by
  refine bodyR T.F_law_told_names sc_law_told_names (fun ds r h => by obtain ⟨e, ns, rfl, _⟩ := h; rfl) fun cdv A outer s H E gd hr => ⟨_, (pss_cons (ps_if (pt_val (pe_callB call_isD (by rfl) T.z_isinstance (by decide +kernel) (pa_cons (pv 0) (pa_cons (pe_bltn (v := .ty "str") (by rfl) T.z_str (by decide +kernel) rfl) pa_nil)))) (pss_one (ps_ret (pe_lst (pa_cons (pv 0) pa_nil)))) pss_nil)
      (pss_cons (ps_set (i := 1) sc_law_told_names.nd rfl (Or.inl rfl) (pe_lst pa_nil))
      (pss_cons (ps_if (pt_val (pe_callB call_isD (by rfl) T.z_isinstance (by decide +kernel) (pa_cons (pv 0) (pa_cons (pe_bltn (v := .ty "tuple") (by rfl) T.z_tuple (by decide +kernel) rfl) pa_nil)))) (pss_one (ps_for PassesOwn.never rfl (pi_tup (pe_slice (sl_tupK (K := K) rfl) (pv 0) (po_some (pe_ifExp (pt_cmpR (op_inK (K := K) rfl) (pe_ix (ix_seqK (K := K) rfl) (pv 0) pe_int (fun _ _ => rfl)) (pe_lst (pa_cons pe_str (pa_cons pe_str (pa_cons pe_str pa_nil)))) (by rfl)) pe_int pe_int)) po_none)) (pg_name (i := 2) sc_law_told_names.nd rfl (Or.inl rfl)) (pss_one (ps_set (i := 1) sc_law_told_names.nd rfl (Or.inl rfl) (pe_op op_cat (pv 1) (pe_g G_law_told_names gd (hr.mono (by omega)) (by rfl) T.g_law_told_names T.F_law_told_names.kp T.b_law_told_names .nil pass0 (pa_cons (pv 2) pa_nil))))))) pss_nil)
      (pss_one (ps_ret (pv 1)))))), ?_⟩
  rintro _ _ hd ⟨e, ns, rfl, he, hde, hn, rfl⟩
  refine SX.seq (SX.ifS (TX.tB (EX.isi (EX.var rfl) (kit_str e.d))) (fun h => ?_) fun h => ?_)
  · cases e with
    | nm z => exact SX.ret (EX.lst (ds := [.str z]) (EDs.ea (.cons (EX.var rfl) .nil))) ⟨rfl, rfl, rfl⟩
    | _ => cases h
  have hne : ∀ z, e ≠ .nm z := fun z hz => by subst hz; cases h
  refine SX.next (SX.seq (SX.set (s := .dat (.list [])) (EX.lst (ds := []) EAX.nil) ?_))
  refine SX.seq (SX.ifS (TX.tB (EX.isi (EX.var rfl) (kit_tuple e.d))) (fun ht => ?_) fun ht => ?_)
  · obtain ⟨z, ps, e1, e2⟩ := told_cut e ht
    refine SX.for_ (its := e.subs.map fun x => Sl.dat x.d) (by
      have hit := IT.tup (KF := K) (g := GS.put ⟨slots 3 ([e.d].map Sl.dat), [], [], hd, []⟩ 1 (.dat (.list []))) ((EX.slT (KF := K) ((EX.var (i := 0) rfl).dat e1) (EO.some (EX.ifE (s := .dat (.int (if (["times", "up", "down"] : List Str).contains z = true then 2 else 1))) (TX.test (EX.inDT (KF := K) (ks := ["times", "up", "down"]) (EX.ixQ (KF := K) (d := .str z) (EX.var (i := 0) rfl) (EX.int 0) (.inr e1) (atI_nat (j := 0) rfl)) (EX.lst (ds := [.str "times", .str "up", .str "down"]) (EDs.ea (.cons (EX.str _) (.cons (EX.str _) (.cons (EX.str _) .nil))))) (.inl rfl))) (fun hc => by rw [if_pos hc]; exact EX.int 2) fun hc => by rw [if_neg (by rw [hc]; decide)]; exact EX.int 1)) EO.no).dat (congrArg PyData.tuple e2))
      rw [List.map_map] at hit
      exact hit) (fun i g' => ∃ s2, g' = ⟨[.dat e.d, .dat (.list (((e.subs.take i).flatMap Et.nms).map .str)), s2], [], [], hd, []⟩) ⟨.no, rfl⟩ ?_ ?_
    · rintro i s _ hs ⟨s2, rfl⟩
      obtain ⟨x, hx, rfl⟩ := getElem?_map_some hs
      obtain ⟨m, rfl, hx1, hx2⟩ := sub0 he hde x (List.mem_of_getElem? hx)
      have l1 := flat_len (i := i) hde hn
      have l2 := Et.nms_len x 10 (by omega)
      refine GX.name (SX.set (s := .dat (.list (((e.subs.take (i + 1)).flatMap Et.nms).map .str))) ((EX.cat (EX.var rfl) (EX.callR (d := .list (x.nms.map .str)) (ds := [x.d]) (EAX.cons (EX.var rfl) EAX.nil) ⟨x, ns, rfl, hx1, hx2, by omega, rfl⟩) ?_).dat ?_) ⟨_, rfl⟩)
      · rw [List.length_map, List.length_map]; omega
      · rw [List.take_add_one, hx, List.flatMap_append, List.map_append]
        simp only [Option.toList, List.flatMap_cons, List.flatMap_nil, List.append_nil]
    · rintro _ ⟨s2, rfl⟩
      rw [List.length_map, List.take_length, ← Et.nms_subs e hne]
      exact SX.ret (EX.var rfl) ⟨rfl, rfl, rfl⟩
  · have : e.nms = [] := by
      cases e with
      | int i => rfl
      | nm z => exact absurd rfl (hne z)
      | _ => cases ht
    rw [this]
    exact SX.next (SX.ret (EX.var rfl) ⟨rfl, rfl, rfl⟩)
theorem ok_law_told_names (T : Tx w K mg) : ∀ n : Nat, FnG P w K mg base CX0 (n + 1) T.a_law_told_names T.d_law_told_names ["_law_told"] (spNms n)
  | 0 => told_one T 0 0 (neverR fun _ _ z => z)
  | n + 1 => told_one T (n + 1) (n + 1) (ok_law_told_names T n)
theorem put_new {kvs : List (Str × Int)} {z : Str} {v : Int} (h : z ∉ kvs.map (·.1)) : putS (kvs.map fun p => ((.inr p.1 : Key), Sl.dat (.int p.2))) (.inr z) (.dat (.int v)) = (kvs ++ [(z, v)]).map fun p => ((.inr p.1 : Key), Sl.dat (.int p.2)) := by
  unfold putS
  rw [if_neg, List.map_append]
  · rfl
  · intro hh
    obtain ⟨q, hq, hz⟩ := List.any_eq_true.mp hh
    obtain ⟨p, hp, rfl⟩ := List.mem_map.mp hq
    have := Sum.inr.inj (of_decide_eq_true hz)
    exact h (List.mem_map.mpr ⟨p, hp, this⟩)
theorem not_yet {l : List Str} (nd : l.Nodup) {i : Nat} {z : Str} (h : l[i]? = some z) : z ∉ l.take i := fun hm => by
  have hjl := (List.getElem?_eq_some_iff.mp h).1
  obtain ⟨q, hq⟩ := List.getElem?_of_mem hm
  have hql := (List.getElem?_eq_some_iff.mp hq).1
  rw [List.length_take] at hql
  rw [List.getElem?_take_of_lt (by omega)] at hq
  have := (List.getElem?_inj (by omega) nd).mp (hq.trans h.symm)
  omega
theorem ok_law_words (T : Tx w K mg) : FnG P w K mg base CX0 1 T.a_law_words T.d_law_words ["_law_filling"] (spR fun ds r => ∃ kvs : List (Str × Int), ds = [.list (kvs.map tiD)] ∧ (kvs.map (·.1)).Nodup ∧ kvs.length ≤ 1000 ∧ r = dictD kvs) := by
  refine bodyR T.F_law_words sc_law_words (fun ds r h => by obtain ⟨kvs, rfl, _⟩ := h; rfl) fun cdv A outer s H E gd hr => ⟨_, (pss_cons (ps_set (i := 1) sc_law_words.nd rfl (Or.inl rfl) pe_dnewK)
      (pss_cons (ps_for PassesOwn.never rfl (pi_list (pv 0)) (pg_tup (by rfl) (pgs_cons (pg_name (i := 2) sc_law_words.nd rfl (Or.inl rfl)) (pgs_cons (pg_name (i := 3) sc_law_words.nd rfl (Or.inl rfl)) pgs_nil))) (pss_one (ps_dput (hu_of hr) (pv 1) (pv 2) (pv 3) rfl)))
      (pss_one (ps_ret (pv 1))))), ?_⟩
  rintro _ _ hd ⟨kvs, rfl, nd, hl, rfl⟩
  refine SX.seq (SX.setM (EM.ownDk fun D _ => ?_))
  refine SX.seq (SX.for_ (IT.listM (xs := kvs) (f := tiD) (EX.var rfl)) (fun i g' => ∃ s2 s3, g' = ⟨[.dat (.list (kvs.map tiD)), .con (.ref D), s2, s3], [(D, .dk ((kvs.take i).map fun p => ((.inr p.1 : Key), Sl.dat (.int p.2))))], [], hd, []⟩) ⟨.no, .no, rfl⟩ ?_ ?_)
  · rintro i s _ hs ⟨s2, s3, rfl⟩
    obtain ⟨⟨z, v⟩, hp, rfl⟩ := getElem?_map_some hs
    have hz : (kvs.map (·.1))[i]? = some z := by rw [List.getElem?_map, hp]; rfl
    have hn := not_yet nd hz
    rw [← List.map_take] at hn
    refine GX.tup rfl (GXs.cons (GX.name (GXs.cons (GX.name (GXs.nil (SX.dputO (n0 := 0) (kvs := []) ((EX.var (s := .dat (.int v)) rfl).em ⟨EX.var rfl, EX.var (s := keyS (.inr z)) rfl, 0, _, rfl, by rw [List.length_map, List.length_take]; omega, .dat (.str z), .dat (.int v), ?_⟩)))))))
    rw [List.take_add_one, hp, show (some ((z, v) : Str × Int)).toList = [(z, v)] from rfl, ← put_new hn]
    rfl
  · rintro _ ⟨s2, s3, rfl⟩
    rw [List.length_map, List.take_length]
    refine SX.freezeD (a := D) 0 [1] rfl (fun j hj => by rw [List.mem_singleton.mp hj]; rfl) ?_
    exact SX.ret (EX.var rfl) ⟨rfl, rfl, rfl⟩
end

end K07

set_option Elab.async false
set_option linter.all false
set_option maxRecDepth 100000
set_option maxHeartbeats 4000000
namespace K07
open PySem PySem.Spec PyProof.Rows L2 Hw

section
variable {P : Program} {w : World} {K : PySem.W.Frag} {mg : Str → Option Value} {base : Heap}
theorem big_pow {wd : Nat} (h : wd ≤ 64) : 0 < 2 ^ wd ∧ 2 ^ wd < 2 ^ 2000 := ⟨Nat.pow_pos (by decide), Nat.pow_lt_pow_right (by decide) (by omega)⟩
theorem lv_twice {wd : Nat} {ρ : Str → Nat} (e : Et) : lvN wd ρ (.bin .plus e (.times (-1) e)) = 0 := by
  show (lvN wd ρ e + (((lvN wd ρ e : Nat) : Int) * (-1) % 2 ^ wd).toNat) % 2 ^ wd = 0
  have h : (((lvN wd ρ e + (((lvN wd ρ e : Nat) : Int) * (-1) % 2 ^ wd).toNat) % 2 ^ wd : Nat) : Int) = 0 := by
    rw [Int.natCast_emod, Int.natCast_add, emod_nat, p2cast, Int.add_emod_emod, show ((lvN wd ρ e : Nat) : Int) + ((lvN wd ρ e : Nat) : Int) * (-1) = 0 by omega]
    exact Int.zero_emod _
  omega
theorem lv_all {wd : Nat} {ρ : Str → Nat} (e : Et) (h : lvN wd ρ e < 2 ^ wd) : lvN wd ρ (.bin .plus (.turned e) e) = 2 ^ wd - 1 := by
  show (2 ^ wd - 1 - lvN wd ρ e + lvN wd ρ e) % 2 ^ wd = 2 ^ wd - 1
  rw [show 2 ^ wd - 1 - lvN wd ρ e + lvN wd ρ e = 2 ^ wd - 1 by omega]
  exact Nat.mod_eq_of_lt (by omega)
theorem lv_shift {wd : Nat} {ρ : Str → Nat} (e : Et) (s : Nat) : lvN wd ρ (.down s (.up s e)) = lvN wd ρ e % 2 ^ (wd - s) := by
  show lvN wd ρ e * 2 ^ s % 2 ^ wd / 2 ^ s = _
  rcases Nat.le_total s wd with h | h
  · obtain ⟨m, rfl⟩ : ∃ m, wd = m + s := ⟨wd - s, by omega⟩
    rw [Nat.pow_add, Nat.mul_mod_mul_right, Nat.mul_div_cancel _ (Nat.pow_pos (by decide)), Nat.add_sub_cancel]
  · obtain ⟨m, rfl⟩ : ∃ m, s = wd + m := ⟨s - wd, by omega⟩
    rw [Nat.pow_add, ← Nat.mul_assoc, Nat.mul_right_comm, Nat.mul_mod_left, Nat.zero_div, show wd - (wd + m) = 0 by omega, Nat.pow_zero, Nat.mod_one]
theorem fill_bnd {wd : Nat} {ns : List Str} {kvs : List (Str × Int)} (hw : wd ≤ 64) (hn : Nn ns) (hf : Filled wd ns kvs) (hl : kvs.length ≤ 64) : Bnd 2 1500 (.list (kvs.map tiD)) := by
  have w64 : (2 : Nat) ^ wd ≤ 2 ^ 64 := Nat.pow_le_pow_right (by decide) hw
  refine Bnd.list (n := 64) (b := 22) (fun x hx => ?_) (by rw [List.length_map]; exact hl) (by decide)
  obtain ⟨p, hp, rfl⟩ := List.mem_map.mp hx
  obtain ⟨h1, v, h2, h3⟩ := hf p hp
  refine Bnd.tuple (n := 2) (k := 0) (b := 10) (fun y hy => ?_) (by simp) (by decide)
  rcases List.mem_cons.mp hy with rfl | hy
  · exact Bnd.str (hn _ h1).2.2.1 (hn _ h1).2.2.2
  · rw [List.mem_singleton.mp hy]; exact Bnd.int (by omega)
theorem pair_shows {wd : Nat} {ns : List Str} {kvs : List (Str × Int)} {e : Et} (hw : wd ≤ 64) (hn : Nn ns) (hf : Filled wd ns kvs) (hl : kvs.length ≤ 64) (he : e.ok ns) (hd : e.depth ≤ 5) : Shows (.list [e.d, .list (kvs.map tiD)]) := by
  have b1 := Et.bnd hn.b e 5 hd he
  have b2 := fill_bnd hw hn hf hl
  refine (Bnd.nice (k := 6) (b := 100000) (Bnd.list (n := 2) (k := 5) (b := 45000) (fun x hx => ?_) (by simp) (by decide)) (by decide) (by decide)).shows
  rcases List.mem_cons.mp hx with rfl | hx
  · exact b1.up (by decide) (by decide)
  · rw [List.mem_singleton.mp hx]; exact b2.up (by decide) (by decide)
theorem word_shows {wd v : Nat} (hw : wd ≤ 64) (hv : v < 2 ^ wd) : Shows (.int (v : Int)) := by
  have w64 : (2 : Nat) ^ wd ≤ 2 ^ 64 := Nat.pow_le_pow_right (by decide) hw
  exact (Nice.int (by omega)).shows
theorem EX.val {g : GS} {E : XK} {t1 t2 t3 : TE} {wd : Nat} {x : Et} {kvs : List (Str × Int)} {ns : List Str} {d : PyData} (h1 : EX t1 g (.dat (.int (wd : Int)))) (h2 : EX t2 g (.dat d)) (h3 : EX t3 g (.dat (.list (kvs.map tiD)))) (ed : d = x.d) (hw : wd ≤ 64) (hn : Nn ns) (hx : x.ok ns) (hd : x.depth ≤ 5) (hz : IsNames x (kvs.map (·.1))) (hf : Filled wd ns kvs) : EX (tCall spValue [] E (tCons t1 (tCons t2 (tCons t3 tNil)))) g (.dat (.int ((lvN wd (rho kvs) x : Nat) : Int))) := by
  subst ed
  exact EX.callR (ds := [.int (wd : Int), x.d, .list (kvs.map tiD)]) (EAX.cons h1 (EAX.cons h2 (EAX.cons h3 EAX.nil))) ⟨wd, x, kvs, ns, rfl, hw, hn, hx, hd, hz, hf, rfl⟩
theorem EX.lval {g : GS} {E : XK} {t1 t2 t3 : TE} {wd : Nat} {x : Et} {kvs : List (Str × Int)} {ns : List Str} (h1 : EX t1 g (.dat (.int (wd : Int)))) (h2 : EX t2 g (.dat x.d)) (h3 : EX t3 g (.dat (dictD kvs))) (hw : wd ≤ 64) (hx : x.ok ns) (hd : x.depth ≤ 5) (hz : IsNames x (kvs.map (·.1))) (hf : Filled wd ns kvs) : EX (tCall (spVal 5) [] E (tCons t1 (tCons t2 (tCons t3 tNil)))) g (.dat (.int ((lvN wd (rho kvs) x : Nat) : Int))) :=
  EX.callR (ds := [.int (wd : Int), x.d, dictD kvs]) (EAX.cons h1 (EAX.cons h2 (EAX.cons h3 EAX.nil))) ⟨wd, x, kvs, x.nms, rfl, hw, Et.nms_ok x hx, hd, by omega, filled_look hz hf, rfl⟩
theorem lv_lt {wd : Nat} {x : Et} {kvs : List (Str × Int)} {ns : List Str} (hx : x.ok ns) (hz : IsNames x (kvs.map (·.1))) (hf : Filled wd ns kvs) : lvN wd (rho kvs) x < 2 ^ wd := lvN_lt (ns := x.nms) (fun z hm => by
  obtain ⟨v, h1, h2⟩ := filled_look hz hf z hm
  rw [rho_of h1]; exact h2) x (Et.nms_ok x hx)
def names3 : List (List Str) := [[], ["x"], ["b", "x"]]
theorem names3_ok : ∀ l ∈ names3, (∀ z ∈ l, nameB z = true ∧ z.length ≤ 10 ∧ okD (.str z) = true ∧ z.cps.size ≤ 10) ∧ l.length ≤ 3 := by decide +kernel
def spRound : Sp := spM fun ss ow gn K' => ∃ a : Addr, ss = [.con (.ref a)] ∧ ow = [] ∧ gn = [(a, 1000)] ∧ ∀ N', K' (.dat (.bool true)) [] [(a, N')]
theorem max_if (wd s : Nat) : (if (0 : Int) > (wd : Int) - (s : Int) then (0 : Int) else (wd : Int) - (s : Int)) = ((wd - s : Nat) : Int) := by
  split <;> omega
theorem ok_law_right (T : Tx w K mg) : FnG P w K mg base CX0 22 T.a_law_right T.d_law_right ["_law_generator_here"] spRound := by
  have G_law_random := ok_rnd (P := P) (w := w) (base := base) T
  have G_law_expression := ok_law_expression (P := P) (w := w) (base := base) T 3
  have G_law_told_names := ok_law_told_names (P := P) (w := w) (base := base) T 5
  have G_law_power := ok_law_power (P := P) (w := w) (base := base) T
  have G_law_value := ok_law_value (P := P) (w := w) (base := base) T 5
  have G_law_words := ok_law_words (P := P) (w := w) (base := base) T
  have G_value := ok_value (P := P) (w := w) (base := base) T
  refine bodyM T.F_law_right sc_law_right (fun ss ow gn K' h => by obtain ⟨a, rfl, _⟩ := h; rfl) fun cdv A outer s H E gd hr => ⟨_, (pss_cons (ps_set (i := 1) sc_law_right.nd rfl (Or.inl rfl) (pe_ix (ix_listK (K := K) rfl) (pe_lst (pa_cons (pe_lst pa_nil) (pa_cons (pe_lst (pa_cons pe_str pa_nil)) (pa_cons (pe_lst (pa_cons pe_str (pa_cons pe_str pa_nil))) pa_nil)))) (pe_g G_law_random gd (hr.mono (by decide)) (by rfl) T.g_law_random T.F_law_random.kp T.b_law_random .nil pass0 (pa_cons (pv 0) (pa_cons pe_int pa_nil))) (fun _ _ => rfl)))
      (pss_cons (ps_set (i := 2) sc_law_right.nd rfl (Or.inl rfl) (pe_g G_law_expression gd (hr.mono (by decide)) (by rfl) T.g_law_expression T.F_law_expression.kp T.b_law_expression .nil pass0 (pa_cons (pv 0) (pa_cons (pv 1) (pa_cons pe_int pa_nil)))))
      (pss_cons (ps_set (i := 3) sc_law_right.nd rfl (Or.inl rfl) (pe_callB (cr_sortedX rfl) (by rfl) T.z_sorted (by decide +kernel) (pa_cons (pe_callTy (cr_setX K rfl rfl) (by rfl) T.z_set (by decide +kernel) (pa_cons (pe_g G_law_told_names gd (hr.mono (by decide)) (by rfl) T.g_law_told_names T.F_law_told_names.kp T.b_law_told_names .nil pass0 (pa_cons (pv 2) pa_nil)) pa_nil)) pa_nil)))
      (pss_cons (ps_for PassesOwn.never rfl (pi_list (pe_lst (pa_cons (pe_g G_law_random gd (hr.mono (by decide)) (by rfl) T.g_law_random T.F_law_random.kp T.b_law_random .nil pass0 (pa_cons (pv 0) (pa_cons pe_int pa_nil))) (pa_cons (pe_op op_add pe_int (pe_g G_law_random gd (hr.mono (by decide)) (by rfl) T.g_law_random T.F_law_random.kp T.b_law_random .nil pass0 (pa_cons (pv 0) (pa_cons pe_int pa_nil)))) (pa_cons (pe_g G_law_random gd (hr.mono (by decide)) (by rfl) T.g_law_random T.F_law_random.kp T.b_law_random .nil pass0 (pa_cons (pv 0) (pa_cons pe_int pa_nil))) pa_nil))))) (pg_name (i := 4) sc_law_right.nd rfl (Or.inr rfl)) (pss_cons (ps_setLc (i := 5) (own := [("_law_name", 10)]) (g := gName 10) (tt := tYes) rfl sc_law_right.nd rfl rfl (sw_true rfl rfl rfl (by decide +kernel)) (pi_list (pv 3)) (blkOk_by (N := ["_law_generator_here", "_law_names", "_law_told", "_law_found", "_law_width", "_law_filling", "_law_kept", "_law_due", "_law_twice", "_law_shift", "_law_name"]) (sc := defScope s_law_right) (by decide +kernel)) (fun _ _ _ _ _ => (pg_name (i := 10) sc_law_right.nd rfl (Or.inl rfl))) (fun _ _ _ _ _ => pts_nil) (fun _ _ _ _ _ => (pe_tup (pa_cons (pv 10) (pa_cons (pe_g G_law_random gd (hr.mono (by decide)) (by rfl) T.g_law_random T.F_law_random.kp T.b_law_random .nil pass0 (pa_cons (pv 0) (pa_cons (pe_g G_law_power gd (hr.mono (by decide)) (by rfl) T.g_law_power T.F_law_power.kp T.b_law_power .nil pass0 (pa_cons (pv 4) pa_nil)) pa_nil))) pa_nil)))))
      (pss_cons (ps_par (i := 6) (j := 7) rfl sc_law_right.nd rfl rfl (by decide) rfl rfl (pa_cons (pe_callB (call_reprT gd hr.units) (by rfl) T.z_repr (by decide +kernel) (pa_cons (pe_lst (pa_cons (pv 2) (pa_cons (pv 5) pa_nil))) pa_nil)) (pa_cons (pe_g G_law_value gd (hr.mono (by decide)) (by rfl) T.g_law_value T.F_law_value.kp T.b_law_value .nil pass0 (pa_cons (pv 4) (pa_cons (pv 2) (pa_cons (pe_g G_law_words gd (hr.mono (by decide)) (by rfl) T.g_law_words T.F_law_words.kp T.b_law_words .nil pass0 (pa_cons (pv 5) pa_nil)) pa_nil)))) pa_nil)) (by rfl))
      (pss_cons (ps_if (PW.pt (pw_or (pt_cmpR op_ne (pe_callB (call_reprT gd hr.units) (by rfl) T.z_repr (by decide +kernel) (pa_cons (pe_g G_value gd (hr.mono (by decide)) (by rfl) T.g_value T.F_value.kp T.b_value .nil pass0 (pa_cons (pv 4) (pa_cons (pv 2) (pa_cons (pv 5) pa_nil)))) pa_nil)) (pe_callB (call_reprT gd hr.units) (by rfl) T.z_repr (by decide +kernel) (pa_cons (pv 7) pa_nil)) (nomark _)) (pw_or1 (pt_cmpR op_ne (pe_callB (call_reprT gd hr.units) (by rfl) T.z_repr (by decide +kernel) (pa_cons (pe_gk G_value gd (hr.mono (by decide)) (by rfl) T.g_value T.F_value.kp T.w_value_filling_expression_width pass0 (pk_cons (pv 5) (pk_cons (pv 2) (pk_cons (pv 4) pk_nil)))) pa_nil)) (pe_callB (call_reprT gd hr.units) (by rfl) T.z_repr (by decide +kernel) (pa_cons (pv 7) pa_nil)) (nomark _))))) (pss_one (ps_ret pe_bl)) pss_nil)
      (pss_cons (ps_set (i := 8) sc_law_right.nd rfl (Or.inl rfl) (pe_g G_value gd (hr.mono (by decide)) (by rfl) T.g_value T.F_value.kp T.b_value .nil pass0 (pa_cons (pv 4) (pa_cons (pe_tup (pa_cons pe_str (pa_cons (pv 2) (pa_cons (pe_tup (pa_cons pe_str (pa_cons (pe_un un_neg pe_int) (pa_cons (pv 2) pa_nil)))) pa_nil)))) (pa_cons (pv 5) pa_nil)))))
      (pss_cons (ps_if (PW.pt (pw_or (pt_cmpR op_ne (pv 8) pe_int (nomark _)) (pw_or (pt_cmpR op_ne (pe_g G_value gd (hr.mono (by decide)) (by rfl) T.g_value T.F_value.kp T.b_value .nil pass0 (pa_cons (pv 4) (pa_cons (pe_tup (pa_cons pe_str (pa_cons (pe_tup (pa_cons pe_str (pa_cons (pv 2) pa_nil))) (pa_cons (pv 2) pa_nil)))) (pa_cons (pv 5) pa_nil)))) (pe_op op_sub (pe_g G_law_power gd (hr.mono (by decide)) (by rfl) T.g_law_power T.F_law_power.kp T.b_law_power .nil pass0 (pa_cons (pv 4) pa_nil)) pe_int) (nomark _)) (pw_or1 (pt_cmpR op_ne (pe_callB (call_reprT gd hr.units) (by rfl) T.z_repr (by decide +kernel) (pa_cons (pe_lst (pa_cons (pv 2) (pa_cons (pv 5) pa_nil))) pa_nil)) (pv 6) (nomark _)))))) (pss_one (ps_ret pe_bl)) pss_nil)
      (pss_cons (ps_set (i := 9) sc_law_right.nd rfl (Or.inl rfl) (pe_g G_law_random gd (hr.mono (by decide)) (by rfl) T.g_law_random T.F_law_random.kp T.b_law_random .nil pass0 (pa_cons (pv 0) (pa_cons pe_int pa_nil))))
      (pss_one (ps_if (pt_cmpR op_ne (pe_g G_value gd (hr.mono (by decide)) (by rfl) T.g_value T.F_value.kp T.b_value .nil pass0 (pa_cons (pv 4) (pa_cons (pe_tup (pa_cons pe_str (pa_cons (pv 9) (pa_cons (pe_tup (pa_cons pe_str (pa_cons (pv 9) (pa_cons (pv 2) pa_nil)))) pa_nil)))) (pa_cons (pv 5) pa_nil)))) (pe_op op_mod (pe_callTy call_int1 (by rfl) T.z_int (by decide +kernel) (pa_cons (pv 7) pa_nil)) (pe_g G_law_power gd (hr.mono (by decide)) (by rfl) T.g_law_power T.F_law_power.kp T.b_law_power .nil pass0 (pa_cons (pe_callB (call_max2 rfl) (by rfl) T.z_max (by decide +kernel) (pa_cons (pe_op op_sub (pv 4) (pv 9)) (pa_cons pe_int pa_nil))) pa_nil))) (nomark _)) (pss_one (ps_ret pe_bl)) pss_nil)))))))))
      (pss_one (ps_ret pe_bl)))))), ?_⟩
  rintro _ _ _ hd pw K' ⟨a, rfl, rfl, rfl, kk⟩
  refine SX.seq (SX.setM (EM.op ((EX.em (s := .dat (.list (names3.map fun l => .list (l.map .str)))) (EX.lst (EDs.ea (.cons (EX.lst (ds := []) (EDs.ea .nil)) (.cons (EX.lst (ds := [.str "x"]) (EDs.ea (.cons (EX.str _) .nil))) (.cons (EX.lst (ds := [.str "b", .str "x"]) (EDs.ea (.cons (EX.str _) (.cons (EX.str _) .nil)))) .nil)))) (by decide)) (EM.rnd (EA.cons ((EX.var rfl).em (EA.cons ((EX.int 3).em (EA.nil ⟨a, 3, 999, rfl, rfl, by decide, big_of (by decide), fun i hi => ?_⟩))))))))))
  obtain ⟨ns, hns⟩ : ∃ l, names3[i]? = some l := ⟨_, List.getElem?_eq_getElem hi⟩
  obtain ⟨hn, hnl⟩ := names3_ok ns (List.mem_of_getElem? hns)
  have hn : Nn ns := hn
  refine ⟨.dat (.list (ns.map .str)), c_ixL (atI_nat (j := i) (by rw [List.getElem?_map, hns]; rfl)), ?_⟩
  refine SX.seq (SX.setM (EM.callM (EA.cons ((EX.var rfl).em (EA.cons ((EX.var rfl).em (EA.cons ((EX.int 3).em (EA.nil ⟨a, ns, 939, rfl, rfl, hn, by omega, fun e het hde => ?_⟩)))))))))
  have he := Et.tk.ok e het
  have nl := Et.nms_len e 3 hde
  refine SX.seq (SX.setM (EM.sortSetX (xs := e.nms) (EX.callR (ds := [e.d]) (EAX.cons (EX.var rfl) EAX.nil) ⟨e, ns, rfl, he, by omega, by omega, rfl⟩) (by omega) fun zs z1 z2 z3 => ?_))
  have hz : IsNames e zs := ⟨z1, z3, z2⟩
  have zl := few_of hz
  refine SX.seq (SX.forM (ITM.list (EM.lst (EA.cons (EM.rnd (EA.cons ((EX.var rfl).em (EA.cons ((EX.int 6).em (EA.nil ⟨a, 6, 938, rfl, rfl, by decide, big_of (by decide), fun r1 hr1 => ?_⟩))))))))))
  refine EA.cons (EM.op ((EX.int 1).em (EM.rnd (EA.cons ((EX.var rfl).em (EA.cons ((EX.int 3).em (EA.nil ⟨a, 3, 937, rfl, rfl, by decide, big_of (by decide), fun r2 hr2 => ⟨_, c_i0, ?_⟩⟩))))))))
  refine EA.cons (EM.rnd (EA.cons ((EX.var rfl).em (EA.cons ((EX.int 65).em (EA.nil ⟨a, 65, 936, rfl, rfl, by decide, big_of (by decide), fun r3 hr3 => ?_⟩))))))
  refine EA.nil ⟨[.int (r1 : Int), .int (1 + (r2 : Int)), .int (r3 : Int)], rfl, by simp, _, rfl, fun i g' => ∃ s4 s5 s6 s7 s8 s9, g' = ⟨[.con (.ref a), .dat (.list (ns.map .str)), .dat e.d, .dat (.list (zs.map .str)), s4, s5, s6, s7, s8, s9, .no], [], [(a, 936 - 100 * i)], hd, pw⟩, ⟨.no, .no, .no, .no, .no, .no, rfl⟩, ?_, ?_⟩
  · rintro i s _ hs ⟨s4, s5, s6, s7, s8, s9, rfl⟩
    obtain ⟨wd, hw, hi, rfl⟩ : ∃ wd : Nat, wd ≤ 64 ∧ i < 3 ∧ s = .dat (.int (wd : Int)) := by
      match i, hs with
      | 0, hs => cases hs; exact ⟨r1, by omega, by omega, rfl⟩
      | 1, hs => cases hs; exact ⟨1 + r2, by omega, by omega, by rw [Int.natCast_add]; rfl⟩
      | 2, hs => cases hs; exact ⟨r3, by omega, by omega, rfl⟩
    obtain ⟨w1, w2⟩ := big_pow hw
    obtain ⟨M, hM⟩ : ∃ M, 936 - 100 * i = M := ⟨_, rfl⟩
    rw [hM]
    refine GX.name (SX.seq (SX.setM (EM.lc (IT.listM (xs := zs) (f := PyData.str) (EX.var rfl)) TgOk.name (by rw [List.length_map]; omega) (fun i ds ow gn => ∃ (kvs : List (Str × Int)) (X : Nat), ds = kvs.map tiD ∧ kvs.map (·.1) = (zs : List Str).take i ∧ (∀ p ∈ kvs, ∃ v : Nat, p.2 = (v : Int) ∧ v < 2 ^ wd) ∧ ow = [] ∧ gn = [(a, X)] ∧ X + i = M) ⟨[], M, rfl, rfl, fun _ h => (nomatch h), rfl, rfl, rfl⟩ ?_ ?_)))
    · rintro i s ds _ _ D hs ⟨kvs, X, rfl, h1, h2, rfl, rfl, hX⟩
      obtain ⟨z, hz', rfl⟩ := getElem?_map_some hs
      have hil := (List.getElem?_eq_some_iff.mp hz').1
      obtain ⟨Y, rfl⟩ : ∃ Y, X = Y + 1 := ⟨X - 1, by omega⟩
      refine GX.name (TX.tm (b := true) TX.yes ?_)
      rw [if_pos rfl]
      refine EM.tup (EA.cons ((EX.var rfl).em (EA.cons (EM.rnd (EA.cons ((EX.var rfl).em (EA.cons ((EX.callR (d := .int (2 ^ wd)) (ds := [.int (wd : Int)]) (EAX.cons (EX.var rfl) EAX.nil) ⟨wd, rfl, by omega, rfl⟩).em (EA.nil ⟨a, 2 ^ wd, Y, by rw [p2cast], rfl, w1, w2, fun v hv => ?_⟩)))))))))
      refine EA.nil ⟨[.str z, .int (v : Int)], rfl, by simp, rfl, rfl, tiD (z, (v : Int)), [], rfl, rfl, kvs ++ [(z, (v : Int))], Y, by rw [List.map_append]; rfl, by rw [List.map_append, h1, List.take_add_one, hz']; rfl, fun p hp => ?_, rfl, rfl, by omega⟩
      rcases List.mem_append.mp hp with h | h
      · exact h2 p h
      · rw [List.mem_singleton.mp h]; exact ⟨v, rfl, hv⟩
    rintro ds _ _ ⟨kvs, X, rfl, hk1, hk2, rfl, rfl, hX⟩
    rw [List.length_map, List.take_length] at hk1
    rw [List.length_map] at hX
    have hz2 : IsNames e (kvs.map (·.1)) := by rw [hk1]; exact hz
    have hf : Filled wd ns kvs := fun p hp => ⟨Et.nms_mem e he _ ((hz2.2.2 p.1).mp (List.mem_map.mpr ⟨p, hp, rfl⟩)), hk2 p hp⟩
    have kl : kvs.length ≤ 64 := by
      have := congrArg List.length hk1
      rw [List.length_map] at this
      omega
    have hlt := lv_lt he hz2 hf
    have shP := pair_shows hw hn hf kl he (show e.depth ≤ 5 by omega)
    have shV := word_shows hw hlt
    refine SX.seq (SX.parM (EA.cons ((EX.repr (EX.lst (ds := [e.d, .list (kvs.map tiD)]) (EDs.ea (.cons (EX.var rfl) (.cons (EX.var rfl) .nil)))) shP).em (EA.cons ((EX.lval (EX.var rfl) (EX.var rfl) (EX.callR (ds := [.list (kvs.map tiD)]) (EAX.cons (EX.var rfl) EAX.nil) ⟨kvs, rfl, hz2.1, by omega, rfl⟩) hw he (show e.depth ≤ 5 by omega) hz2 hf).em (EA.nil ⟨_, _, rfl, ?_⟩))))))
    refine SX.seq (SX.ifS (b := false) ((TX.or (TX.test (EX.neS (EX.repr (EX.val (EX.var rfl) (EX.var rfl) (EX.var rfl) rfl hw hn he (show e.depth ≤ 5 by omega) hz2 hf) shV) (EX.repr (EX.var rfl) shV))) fun _ => TX.test (EX.neS (EX.repr (EX.callRW (d := .int ((lvN wd (rho kvs) e : Nat) : Int)) (ds := [.int (wd : Int), e.d, .list (kvs.map tiD)]) (ss := [.dat (.list (kvs.map tiD)), .dat e.d, .dat (.int (wd : Int))]) (EAX.cons (EX.var rfl) (EAX.cons (EX.var rfl) (EAX.cons (EX.var rfl) EAX.nil))) (fun l H zs h => by
      cases h with
      | cons h1 h2 => cases h2 with
        | cons h2 h3 => cases h3 with
          | cons h3 h4 => cases h4; exact ⟨rfl, .cons h3 (.cons h2 (.cons h1 .nil))⟩) ⟨wd, e, kvs, ns, rfl, hw, hn, he, by omega, hz2, hf, rfl⟩) shV) (EX.repr (EX.var rfl) shV))).cast ?_) (fun z => nomatch z) fun _ => SX.next ?_)
    · rw [decide_eq_true rfl]; rfl
    have hz3 : ∀ x : Et, (∀ z, z ∈ x.nms ↔ z ∈ e.nms) → IsNames x (kvs.map (·.1)) := fun x hx => ⟨hz2.1, hz2.2.1, fun z => (hz2.2.2 z).trans (hx z).symm⟩
    refine SX.seq (SX.set (s := .dat (.int 0)) ((EX.val (x := .bin .plus e (.times (-1) e)) (EX.var rfl) (EX.tup (ds := [.str "plus", e.d, .tuple [.str "times", .int (-1), e.d]]) (EDs.ea (.cons (EX.str _) (.cons (EX.var rfl) (.cons (EX.tup (EDs.ea (.cons (EX.str _) (.cons (EX.neg (EX.int 1)) (.cons (EX.var rfl) .nil))))) .nil))))) (EX.var rfl) rfl hw hn ⟨he, by decide, he⟩ (Nat.succ_le_succ (Nat.max_le.mpr ⟨by omega, Nat.succ_le_succ (by omega)⟩)) (hz3 _ fun z => by simp [Et.nms]) hf).dat (by rw [lv_twice]; rfl)) ?_)
    refine SX.seq (SX.ifS (b := false) ((TX.or (TX.test (EX.neI (EX.var rfl) (EX.int 0))) fun _ => TX.or (TX.test (EX.neI (EX.val (x := .bin .plus (.turned e) e) (EX.var rfl) (EX.tup (ds := [.str "plus", .tuple [.str "turned", e.d], e.d]) (EDs.ea (.cons (EX.str _) (.cons (EX.tup (EDs.ea (.cons (EX.str _) (.cons (EX.var rfl) .nil)))) (.cons (EX.var rfl) .nil))))) (EX.var rfl) rfl hw hn ⟨he, he⟩ (Nat.succ_le_succ (Nat.max_le.mpr ⟨Nat.succ_le_succ (by omega), by omega⟩)) (hz3 _ fun z => by simp [Et.nms]) hf) (EX.i0 (EX.callR (d := .int (2 ^ wd)) (ds := [.int (wd : Int)]) (EAX.cons (EX.var rfl) EAX.nil) ⟨wd, rfl, by omega, rfl⟩) (EX.int 1)))) fun _ => TX.test (EX.neS (EX.repr (EX.lst (ds := [e.d, .list (kvs.map tiD)]) (EDs.ea (.cons (EX.var rfl) (.cons (EX.var rfl) .nil)))) shP) (EX.var rfl))).cast ?_) (fun z => nomatch z) fun _ => SX.next ?_)
    · have e1 : ((lvN wd (rho kvs) (.bin .plus (.turned e) e) : Nat) : Int) = 2 ^ wd - 1 := by
        rw [lv_all e hlt, ← p2cast]; omega
      rw [e1, decide_eq_true rfl, decide_eq_true rfl, decide_eq_true rfl]; rfl
    have hX2 : X = X - 1 + 1 := by omega
    rw [hX2]
    refine SX.seq (SX.setM (EM.rnd (EA.cons ((EX.var rfl).em (EA.cons ((EX.int 9).em (EA.nil ⟨a, 9, X - 1, rfl, rfl, by decide, big_of (by decide), fun sh hsh => ?_⟩)))))))
    refine SX.ifS (b := false) ((TX.test (EX.neI (EX.val (x := .down sh (.up sh e)) (EX.var rfl) (EX.tup (ds := [.str "down", .int (sh : Int), .tuple [.str "up", .int (sh : Int), e.d]]) (EDs.ea (.cons (EX.str _) (.cons (EX.var rfl) (.cons (EX.tup (EDs.ea (.cons (EX.str _) (.cons (EX.var rfl) (.cons (EX.var rfl) .nil))))) .nil))))) (EX.var rfl) rfl hw hn ⟨by omega, by omega, he⟩ (Nat.succ_le_succ (Nat.succ_le_succ (by omega))) (hz3 _ fun z => Iff.rfl) hf) (EX.mod (EX.intI (EX.var rfl)) (EX.callR (d := .int (2 ^ (wd - sh))) (ds := [.int ((wd - sh : Nat) : Int)]) (EAX.cons ((EX.max2 (EX.i0 (EX.var rfl) (EX.var rfl)) (EX.int 0)).dat (congrArg PyData.int (max_if wd sh))) EAX.nil) ⟨wd - sh, rfl, by omega, rfl⟩) (p2pos (wd - sh))))).cast ?_) (fun z => nomatch z) fun _ => ?_
    · rw [lv_shift, Int.natCast_emod, p2cast, decide_eq_true rfl]; rfl
    exact SX.less (936 - 100 * (i + 1)) rfl (by omega) (SX.next ⟨_, _, _, _, _, _, rfl⟩)
  · rintro _ ⟨s4, s5, s6, s7, s8, s9, rfl⟩
    exact SX.ret (EX.bl true) ⟨kk _, rfl, rfl⟩
end

end K07

set_option Elab.async false
set_option linter.all false
set_option maxRecDepth 100000
set_option maxHeartbeats 4000000
namespace K07
open PySem PySem.Spec PyProof.Rows L2 Hw

section
variable {P : Program} {w : World} {K : PySem.W.Frag} {mg : Str → Option Value} {base : Heap}

theorem ok_gen (T : Tx w K mg) : FnG P w K mg base CX0 2 T.a_law_generator T.d_law_generator ["_law_script", "_law_index"] (spGen K) :=
  (ok_law_generator T).weak fun vs H Q E h => by
    obtain ⟨a, ns, j, e, hj, hS, q⟩ := h
    refine ⟨a, ns, j, e, hj, hS, fun p H' s t c sm hp hg ok => q p H' sm hp ?_⟩
    have e2 : (2 : Int) ^ 2000 = ((2 ^ 2000 : Nat) : Int) := by rw [Int.natCast_pow]; rfl
    refine ⟨s, t, c, hg, ok.s0, ok.s1, ok.t0, ok.t1, ok.c0, ?_⟩
    have := ok.c1
    omega

def wideN : List Str := ["b", "t1", "x", "y"]
theorem wideN_ok : Nn wideN := by
  show ∀ z ∈ wideN, nameB z = true ∧ z.length ≤ 10 ∧ okD (.str z) = true ∧ z.cps.size ≤ 10
  decide +kernel
def timesD (k : Int) (z : Str) : PyData := .tuple [.str "times", .int k, .str z]
theorem zw (k : Int) : ∀ (ks : List Int) (zs : List Str) (z : Str), zs[ks.length]? = some z → List.zipWith timesD (ks ++ [k]) zs = List.zipWith timesD ks zs ++ [timesD k z]
  | [], zs, z, h => by
    cases zs with
    | nil => simp at h
    | cons y r => cases h; simp [List.zipWith]
  | j :: ks, zs, z, h => by
    cases zs with
    | nil => simp at h
    | cons y r =>
      have := zw k ks r z (by simpa using h)
      rw [List.cons_append, List.zipWith_cons_cons, List.zipWith_cons_cons, this, List.cons_append]
def wideE (k0 k1 k2 k3 : Int) (r : Nat) (q : Int) : Et := .bin .plus (.bin .minus (.times k0 (.nm "b")) (.turned (.times k1 (.nm "t1")))) (.bin .unlike (.up r (.times k2 (.nm "x"))) (.bin .plus (.times k3 (.nm "y")) (.int q)))
theorem ok_law_wide_right (T : Tx w K mg) : FnG P w K mg base CX0 22 T.a_law_wide_right T.d_law_wide_right ["_law_generator_here"] spRound := by
  have G_law_random := ok_rnd (P := P) (w := w) (base := base) T
  have G_law_power := ok_law_power (P := P) (w := w) (base := base) T
  have G_law_value := ok_law_value (P := P) (w := w) (base := base) T 5
  have G_law_words := ok_law_words (P := P) (w := w) (base := base) T
  have G_value := ok_value (P := P) (w := w) (base := base) T
  refine bodyM T.F_law_wide_right sc_law_wide_right (fun ss ow gn K' h => by obtain ⟨a, rfl, _⟩ := h; rfl) fun cdv A outer s H E gd hr => ⟨_, (pss_cons (ps_set (i := 1) sc_law_wide_right.nd rfl (Or.inl rfl) (pe_lst (pa_cons pe_str (pa_cons pe_str (pa_cons pe_str (pa_cons pe_str pa_nil))))))
      (pss_cons (ps_setLc (i := 2) (own := [("_law_name", 7)]) (g := gName 7) (tt := tYes) rfl sc_law_wide_right.nd rfl rfl (sw_true rfl rfl rfl (by decide +kernel)) (pi_list (pv 1)) (blkOk_by (N := ["_law_generator_here", "_law_names", "_law_parts", "_law_told", "_law_turn", "_law_width", "_law_filling", "_law_name"]) (sc := defScope s_law_wide_right) (by decide +kernel)) (fun _ _ _ _ _ => (pg_name (i := 7) sc_law_wide_right.nd rfl (Or.inl rfl))) (fun _ _ _ _ _ => pts_nil) (fun _ _ _ _ _ => (pe_tup (pa_cons pe_str (pa_cons (pe_op op_sub (pe_g G_law_random gd (hr.mono (by decide)) (by rfl) T.g_law_random T.F_law_random.kp T.b_law_random .nil pass0 (pa_cons (pv 0) (pa_cons pe_int pa_nil))) pe_int) (pa_cons (pv 7) pa_nil))))))
      (pss_cons (ps_set (i := 3) sc_law_wide_right.nd rfl (Or.inl rfl) (pe_tup (pa_cons pe_str (pa_cons (pe_tup (pa_cons pe_str (pa_cons (pe_ix (ix_listK (K := K) rfl) (pv 2) pe_int (fun _ _ => rfl)) (pa_cons (pe_tup (pa_cons pe_str (pa_cons (pe_ix (ix_listK (K := K) rfl) (pv 2) pe_int (fun _ _ => rfl)) pa_nil))) pa_nil)))) (pa_cons (pe_tup (pa_cons pe_str (pa_cons (pe_tup (pa_cons pe_str (pa_cons (pe_g G_law_random gd (hr.mono (by decide)) (by rfl) T.g_law_random T.F_law_random.kp T.b_law_random .nil pass0 (pa_cons (pv 0) (pa_cons pe_int pa_nil))) (pa_cons (pe_ix (ix_listK (K := K) rfl) (pv 2) pe_int (fun _ _ => rfl)) pa_nil)))) (pa_cons (pe_tup (pa_cons pe_str (pa_cons (pe_ix (ix_listK (K := K) rfl) (pv 2) pe_int (fun _ _ => rfl)) (pa_cons (pe_op op_sub (pe_g G_law_random gd (hr.mono (by decide)) (by rfl) T.g_law_random T.F_law_random.kp T.b_law_random .nil pass0 (pa_cons (pv 0) (pa_cons pe_int pa_nil))) pe_int) pa_nil)))) pa_nil)))) pa_nil)))))
      (pss_cons (ps_for PassesOwn.never rfl (pi_range1 (by rfl) T.z_range (pa_cons pe_int pa_nil)) (pg_name (i := 4) sc_law_wide_right.nd rfl (Or.inl rfl)) (pss_cons (ps_set (i := 5) sc_law_wide_right.nd rfl (Or.inr rfl) (pe_g G_law_random gd (hr.mono (by decide)) (by rfl) T.g_law_random T.F_law_random.kp T.b_law_random .nil pass0 (pa_cons (pv 0) (pa_cons pe_int pa_nil))))
      (pss_cons (ps_setLc (i := 6) (own := [("_law_name", 7)]) (g := gName 7) (tt := tYes) rfl sc_law_wide_right.nd rfl rfl (sw_true rfl rfl rfl (by decide +kernel)) (pi_list (pv 1)) (blkOk_by (N := ["_law_generator_here", "_law_names", "_law_parts", "_law_told", "_law_turn", "_law_width", "_law_filling", "_law_name"]) (sc := defScope s_law_wide_right) (by decide +kernel)) (fun _ _ _ _ _ => (pg_name (i := 7) sc_law_wide_right.nd rfl (Or.inl rfl))) (fun _ _ _ _ _ => pts_nil) (fun _ _ _ _ _ => (pe_tup (pa_cons (pv 7) (pa_cons (pe_g G_law_random gd (hr.mono (by decide)) (by rfl) T.g_law_random T.F_law_random.kp T.b_law_random .nil pass0 (pa_cons (pv 0) (pa_cons (pe_g G_law_power gd (hr.mono (by decide)) (by rfl) T.g_law_power T.F_law_power.kp T.b_law_power .nil pass0 (pa_cons (pv 5) pa_nil)) pa_nil))) pa_nil)))))
      (pss_one (ps_if (pt_cmpR op_ne (pe_callB (call_reprT gd hr.units) (by rfl) T.z_repr (by decide +kernel) (pa_cons (pe_g G_value gd (hr.mono (by decide)) (by rfl) T.g_value T.F_value.kp T.b_value .nil pass0 (pa_cons (pv 5) (pa_cons (pv 3) (pa_cons (pv 6) pa_nil)))) pa_nil)) (pe_callB (call_reprT gd hr.units) (by rfl) T.z_repr (by decide +kernel) (pa_cons (pe_g G_law_value gd (hr.mono (by decide)) (by rfl) T.g_law_value T.F_law_value.kp T.b_law_value .nil pass0 (pa_cons (pv 5) (pa_cons (pv 3) (pa_cons (pe_g G_law_words gd (hr.mono (by decide)) (by rfl) T.g_law_words T.F_law_words.kp T.b_law_words .nil pass0 (pa_cons (pv 6) pa_nil)) pa_nil)))) pa_nil)) (nomark _)) (pss_one (ps_ret pe_bl)) pss_nil)))))
      (pss_one (ps_ret pe_bl)))))), ?_⟩
  rintro _ _ _ hd pw K' ⟨a, rfl, rfl, rfl, kk⟩
  refine SX.seq (SX.set (s := .dat (.list (wideN.map .str))) (EX.lst (EDs.ea (.cons (EX.str _) (.cons (EX.str _) (.cons (EX.str _) (.cons (EX.str _) .nil))))) (by decide)) ?_)
  refine SX.seq (SX.setM (EM.lc (IT.listM (xs := wideN) (f := PyData.str) (EX.var rfl)) TgOk.name (by decide) (fun i ds ow gn => ∃ (ks : List Int) (X : Nat), ds = List.zipWith timesD ks wideN ∧ ks.length = i ∧ (∀ k ∈ ks, k.natAbs ≤ 100) ∧ ow = [] ∧ gn = [(a, X)] ∧ X + i = 1000) ⟨[], 1000, rfl, rfl, fun _ h => (nomatch h), rfl, rfl, rfl⟩ ?_ ?_))
  · rintro i s ds _ _ D hs ⟨ks, X, rfl, h1, h2, rfl, rfl, hX⟩
    obtain ⟨z, hz', rfl⟩ := getElem?_map_some hs
    have hil : i < 4 := (List.getElem?_eq_some_iff.mp hz').1
    obtain ⟨Y, rfl⟩ : ∃ Y, X = Y + 1 := ⟨X - 1, by omega⟩
    refine GX.name (TX.tm (b := true) TX.yes ?_)
    rw [if_pos rfl]
    refine EM.tup (EA.cons ((EX.str _).em (EA.cons (EM.op (EM.rnd (EA.cons ((EX.var rfl).em (EA.cons ((EX.int 201).em (EA.nil ⟨a, 201, Y, rfl, rfl, by decide, big_of (by decide), fun v hv => ?_⟩))))))))))
    refine (EX.int 100).em ⟨_, c_i0, EA.cons ((EX.var rfl).em (EA.nil ⟨[.str "times", .int ((v : Int) - 100), .str z], rfl, by simp, rfl, rfl, timesD ((v : Int) - 100) z, [], rfl, rfl, ks ++ [(v : Int) - 100], Y, ?_, by rw [List.length_append, h1]; rfl, fun k hk => ?_, rfl, rfl, by omega⟩))⟩
    · rw [zw _ ks wideN z (by rw [h1]; exact hz')]
    · rcases List.mem_append.mp hk with h | h
      · exact h2 k h
      · rw [List.mem_singleton.mp h]; omega
  rintro ds _ _ ⟨ks, X, rfl, h1, h2, rfl, rfl, hX⟩
  rw [List.length_map] at h1 hX
  have hX : X = 996 := by have : X + 4 = 1000 := hX; omega
  subst hX
  obtain ⟨k0, k1, k2, k3, rfl⟩ : ∃ k0 k1 k2 k3, ks = [k0, k1, k2, k3] := by
    match ks, h1 with
    | [k0, k1, k2, k3], _ => exact ⟨k0, k1, k2, k3, rfl⟩
  have b0 := h2 k0 (by simp)
  have b1 := h2 k1 (by simp)
  have b2 := h2 k2 (by simp)
  have b3 := h2 k3 (by simp)
  have part : ∀ (g : GS) (j : Nat) (d : PyData), g.sl[2]? = some (.dat (.list (List.zipWith timesD [k0, k1, k2, k3] wideN))) → atI (List.zipWith timesD [k0, k1, k2, k3] wideN) (j : Int) = some d → EX (tOp (rIxL K) (tVar 2) (tC (.int (j : Int)))) g (.dat d) := fun g j d hg h => EX.ixL (EX.var hg) (EX.int (j : Int)) h
  refine SX.seq (SX.setM (EM.tup (EA.cons ((EX.str _).em (EA.cons ((EX.tup (ds := [.str "minus", timesD k0 "b", .tuple [.str "turned", timesD k1 "t1"]]) (EDs.ea (.cons (EX.str _) (.cons (part _ 0 _ rfl rfl) (.cons (EX.tup (EDs.ea (.cons (EX.str _) (.cons (part _ 1 _ rfl rfl) .nil)))) .nil))))).em (EA.cons (EM.tup (EA.cons ((EX.str _).em (EA.cons (EM.tup (EA.cons ((EX.str _).em (EA.cons (EM.rnd (EA.cons ((EX.var rfl).em (EA.cons ((EX.int 9).em (EA.nil ⟨a, 9, 995, rfl, rfl, by decide, big_of (by decide), fun r hr' => ?_⟩)))))))))))))))))))))
  refine EA.cons ((part _ 2 _ rfl rfl).em (EA.nil ⟨[.str "up", .int (r : Int), timesD k2 "x"], rfl, by simp, ?_⟩))
  refine EA.cons (EM.tup (EA.cons ((EX.str _).em (EA.cons ((part _ 3 _ rfl rfl).em (EA.cons (EM.op (EM.rnd (EA.cons ((EX.var rfl).em (EA.cons ((EX.int 2001).em (EA.nil ⟨a, 2001, 994, rfl, rfl, by decide, ?_, fun q hq => ?_⟩)))))))))))))
  · have : (2001 : Nat) < 2 ^ 2000 := by decide +kernel
    exact this
  refine (EX.int 1000).em ⟨_, c_i0, EA.nil ⟨[.str "plus", timesD k3 "y", .int ((q : Int) - 1000)], rfl, by simp, EA.nil ⟨[.str "unlike", .tuple [.str "up", .int (r : Int), timesD k2 "x"], .tuple [.str "plus", timesD k3 "y", .int ((q : Int) - 1000)]], rfl, by simp, EA.nil ⟨[.str "plus", .tuple [.str "minus", timesD k0 "b", .tuple [.str "turned", timesD k1 "t1"]], .tuple [.str "unlike", .tuple [.str "up", .int (r : Int), timesD k2 "x"], .tuple [.str "plus", timesD k3 "y", .int ((q : Int) - 1000)]]], rfl, by simp, ?_⟩⟩⟩⟩
  have ed : (wideE k0 k1 k2 k3 r ((q : Int) - 1000)).d = .tuple [.str "plus", .tuple [.str "minus", timesD k0 "b", .tuple [.str "turned", timesD k1 "t1"]], .tuple [.str "unlike", .tuple [.str "up", .int (r : Int), timesD k2 "x"], .tuple [.str "plus", timesD k3 "y", .int ((q : Int) - 1000)]]] := rfl
  rw [← ed]
  have he : (wideE k0 k1 k2 k3 r ((q : Int) - 1000)).ok wideN := by
    have mb : ∀ z : Str, z ∈ wideN → Et.ok wideN (.nm z) := fun z h => h
    refine ⟨⟨⟨by omega, mb "b" (by decide +kernel)⟩, by omega, mb "t1" (by decide +kernel)⟩, ⟨by omega, by omega, mb "x" (by decide +kernel)⟩, ⟨by omega, mb "y" (by decide +kernel)⟩, ?_⟩
    show ((q : Int) - 1000).natAbs ≤ 10000
    omega
  have hde : (wideE k0 k1 k2 k3 r ((q : Int) - 1000)).depth ≤ 5 := by show 4 ≤ 5; decide
  have hz : IsNames (wideE k0 k1 k2 k3 r ((q : Int) - 1000)) wideN := ⟨by decide +kernel, by decide +kernel, fun z => by simp [wideE, wideN, Et.nms]⟩
  generalize wideE k0 k1 k2 k3 r ((q : Int) - 1000) = e at he hde hz
  refine SX.seq (SX.for_ (IT.range1 (n := 4) (EAX.cons (EX.int 4) EAX.nil) (by decide)) (fun i g' => ∃ s4 s5 s6, g' = ⟨[.con (.ref a), .dat (.list (wideN.map .str)), .dat (.list (List.zipWith timesD [k0, k1, k2, k3] wideN)), .dat e.d, s4, s5, s6, .no], [], [(a, 994 - 100 * i)], hd, pw⟩) ⟨.no, .no, .no, rfl⟩ ?_ ?_)
  · rintro i s _ hs ⟨s4, s5, s6, rfl⟩
    have hi := (List.getElem?_eq_some_iff.mp hs).1
    unfold rangeS at hi
    rw [List.length_map, List.length_range] at hi
    obtain ⟨M, hM⟩ : ∃ M, 994 - 100 * i = M + 1 := ⟨993 - 100 * i, by omega⟩
    rw [hM]
    have zl : wideN.length = 4 := rfl
    refine GX.name (SX.seq (SX.setM (EM.rnd (EA.cons ((EX.var rfl).em (EA.cons ((EX.int 65).em (EA.nil ⟨a, 65, M, rfl, rfl, by decide, big_of (by decide), fun wd hwd => ?_⟩))))))))
    have hw : wd ≤ 64 := by omega
    obtain ⟨w1, w2⟩ := big_pow hw
    refine SX.seq (SX.setM (EM.lc (IT.listM (xs := wideN) (f := PyData.str) (EX.var rfl)) TgOk.name (by rw [List.length_map]; omega) (fun i ds ow gn => ∃ (kvs : List (Str × Int)) (X : Nat), ds = kvs.map tiD ∧ kvs.map (·.1) = (wideN : List Str).take i ∧ (∀ p ∈ kvs, ∃ v : Nat, p.2 = (v : Int) ∧ v < 2 ^ wd) ∧ ow = [] ∧ gn = [(a, X)] ∧ X + i = M) ⟨[], M, rfl, rfl, fun _ h => (nomatch h), rfl, rfl, rfl⟩ ?_ ?_))
    · rintro i s ds _ _ D hs ⟨kvs, X, rfl, h1, h2, rfl, rfl, hX⟩
      obtain ⟨z, hz', rfl⟩ := getElem?_map_some hs
      have hil := (List.getElem?_eq_some_iff.mp hz').1
      obtain ⟨Y, rfl⟩ : ∃ Y, X = Y + 1 := ⟨X - 1, by omega⟩
      refine GX.name (TX.tm (b := true) TX.yes ?_)
      rw [if_pos rfl]
      refine EM.tup (EA.cons ((EX.var rfl).em (EA.cons (EM.rnd (EA.cons ((EX.var rfl).em (EA.cons ((EX.callR (d := .int (2 ^ wd)) (ds := [.int (wd : Int)]) (EAX.cons (EX.var rfl) EAX.nil) ⟨wd, rfl, by omega, rfl⟩).em (EA.nil ⟨a, 2 ^ wd, Y, by rw [p2cast], rfl, w1, w2, fun v hv => ?_⟩)))))))))
      refine EA.nil ⟨[.str z, .int (v : Int)], rfl, by simp, rfl, rfl, tiD (z, (v : Int)), [], rfl, rfl, kvs ++ [(z, (v : Int))], Y, by rw [List.map_append]; rfl, by rw [List.map_append, h1, List.take_add_one, hz']; rfl, fun p hp => ?_, rfl, rfl, by omega⟩
      rcases List.mem_append.mp hp with h | h
      · exact h2 p h
      · rw [List.mem_singleton.mp h]; exact ⟨v, rfl, hv⟩
    rintro ds _ _ ⟨kvs, X, rfl, hk1, hk2, rfl, rfl, hX⟩
    rw [List.length_map, List.take_length] at hk1
    rw [List.length_map] at hX
    have hz2 : IsNames e (kvs.map (·.1)) := by rw [hk1]; exact hz
    have hf : Filled wd wideN kvs := fun p hp => ⟨Et.nms_mem e he _ ((hz2.2.2 p.1).mp (List.mem_map.mpr ⟨p, hp, rfl⟩)), hk2 p hp⟩
    have kl : kvs.length ≤ 64 := by
      have := congrArg List.length hk1
      rw [List.length_map] at this
      omega
    have hlt := lv_lt he hz2 hf
    have shV := word_shows hw hlt
    refine SX.ifS (b := false) ((TX.test (EX.neS (EX.repr (EX.val (EX.var rfl) (EX.var rfl) (EX.var rfl) rfl hw wideN_ok he hde hz2 hf) shV) (EX.repr (EX.lval (EX.var rfl) (EX.var rfl) (EX.callR (ds := [.list (kvs.map tiD)]) (EAX.cons (EX.var rfl) EAX.nil) ⟨kvs, rfl, hz2.1, by omega, rfl⟩) hw he hde hz2 hf) shV))).cast ?_) (fun z => nomatch z) fun _ => ?_
    · rw [decide_eq_true rfl]; rfl
    exact SX.less (994 - 100 * (i + 1)) rfl (by omega) (SX.next ⟨_, _, _, rfl⟩)
  · rintro _ ⟨s4, s5, s6, rfl⟩
    exact SX.ret (EX.bl true) ⟨kk _, rfl, rfl⟩
def four : List Str := ["x", "y"]
theorem four_ok : Nn four := by
  show ∀ z ∈ four, nameB z = true ∧ z.length ≤ 10 ∧ okD (.str z) = true ∧ z.cps.size ≤ 10
  decide +kernel
theorem EX.valC {g : GS} {E : XK} {t1 t2 t3 : TE} (wd : Nat) (x : Et) (kvs : List (Str × Int)) {d : PyData} (r : Int) (h1 : EX t1 g (.dat (.int (wd : Int)))) (h2 : EX t2 g (.dat d)) (h3 : EX t3 g (.dat (.list (kvs.map tiD)))) (ed : d = x.d) (hw : wd ≤ 64) (hx : x.ok four) (hd : x.depth ≤ 5) (hz : IsNames x (kvs.map (·.1))) (hf : Filled wd four kvs) (hr : ((lvN wd (rho kvs) x : Nat) : Int) = r) : EX (tCall spValue [] E (tCons t1 (tCons t2 (tCons t3 tNil)))) g (.dat (.int r)) :=
  (EX.val h1 h2 h3 ed hw four_ok hx hd hz hf).dat (congrArg PyData.int hr)
theorem far_val (q : Int) : ((lvN 64 (rho []) (.bin .minus (.int q) (.int 0)) : Nat) : Int) = q % 2 ^ 64 := by
  show ((((((q % 2 ^ 64).toNat : Nat) : Int) - (((0 : Int) % 2 ^ 64).toNat : Nat)) % 2 ^ 64).toNat : Int) = q % 2 ^ 64
  rw [emod_nat, emod_nat, emod_nat, Int.zero_emod, Int.sub_zero, Int.emod_emod]
theorem ok_law (T : Tx w K mg) : FnG P w K mg base CX0 23 T.a_law T.d_law ["_law_script"] (spLaw K) := by
  have G_law_generator := ok_gen (P := P) (w := w) (base := base) T
  have G_law_random := ok_rnd (P := P) (w := w) (base := base) T
  have G_law_right := ok_law_right (P := P) (w := w) (base := base) T
  have G_law_wide_right := ok_law_wide_right (P := P) (w := w) (base := base) T
  have G_law_power := ok_law_power (P := P) (w := w) (base := base) T
  have G_value := ok_value (P := P) (w := w) (base := base) T
  refine bodyL T.F_law sc_law fun cdv A outer s H E gd hr => ⟨_, (pss_cons (ps_if (pt_not (pt_val (pe_g G_law_wide_right gd (hr.mono (by decide)) (by rfl) T.g_law_wide_right T.F_law_wide_right.kp T.b_law_wide_right .nil pass0 (pa_cons (pe_g G_law_generator gd (hr.mono (by decide)) (by rfl) T.g_law_generator T.F_law_generator.kp T.b_law_generator .nil pass0 (pa_cons (pv 0) (pa_cons pe_int pa_nil))) pa_nil)))) (pss_one (ps_ret pe_bl)) pss_nil)
      (pss_cons (ps_for PassesOwn.never rfl (pi_range1 (by rfl) T.z_range (pa_cons pe_int pa_nil)) (pg_name (i := 1) sc_law.nd rfl (Or.inl rfl)) (pss_one (ps_if (pt_not (pt_val (pe_g G_law_right gd (hr.mono (by decide)) (by rfl) T.g_law_right T.F_law_right.kp T.b_law_right .nil pass0 (pa_cons (pe_g G_law_generator gd (hr.mono (by decide)) (by rfl) T.g_law_generator T.F_law_generator.kp T.b_law_generator .nil pass0 (pa_cons (pv 0) (pa_cons (pv 1) pa_nil))) pa_nil)))) (pss_one (ps_ret pe_bl)) pss_nil)))
      (pss_cons (ps_set (i := 2) sc_law.nd rfl (Or.inl rfl) (pe_op op_sub (pe_g G_law_random gd (hr.mono (by decide)) (by rfl) T.g_law_random T.F_law_random.kp T.b_law_random .nil pass0 (pa_cons (pe_g G_law_generator gd (hr.mono (by decide)) (by rfl) T.g_law_generator T.F_law_generator.kp T.b_law_generator .nil pass0 (pa_cons (pv 0) (pa_cons pe_int pa_nil))) (pa_cons pe_int pa_nil))) pe_int))
      (pss_cons (ps_if (PW.pt (pw_or (pt_cmpR op_ne (pe_g G_value gd (hr.mono (by decide)) (by rfl) T.g_value T.F_value.kp T.b_value .nil pass0 (pa_cons pe_int (pa_cons (pe_tup (pa_cons pe_str (pa_cons (pv 2) (pa_cons pe_int pa_nil)))) (pa_cons (pe_lst pa_nil) pa_nil)))) (pe_op op_mod (pe_callTy call_int1 (by rfl) T.z_int (by decide +kernel) (pa_cons (pv 2) pa_nil)) (pe_g G_law_power gd (hr.mono (by decide)) (by rfl) T.g_law_power T.F_law_power.kp T.b_law_power .nil pass0 (pa_cons pe_int pa_nil))) (nomark _)) (pw_or1 (pt_cmpR op_ne (pe_g G_value gd (hr.mono (by decide)) (by rfl) T.g_value T.F_value.kp T.b_value .nil pass0 (pa_cons pe_int (pa_cons (pe_tup (pa_cons pe_str (pa_cons pe_int (pa_cons pe_str pa_nil)))) (pa_cons (pe_lst (pa_cons (pe_tup (pa_cons pe_str (pa_cons pe_int pa_nil))) pa_nil)) pa_nil)))) pe_int (nomark _))))) (pss_one (ps_ret pe_bl)) pss_nil)
      (pss_cons (ps_set (i := 3) sc_law.nd rfl (Or.inl rfl) (pe_lst (pa_cons (pe_g G_value gd (hr.mono (by decide)) (by rfl) T.g_value T.F_value.kp T.b_value .nil pass0 (pa_cons pe_int (pa_cons (pe_tup (pa_cons pe_str (pa_cons pe_str (pa_cons (pe_un un_neg pe_int) pa_nil)))) (pa_cons (pe_lst (pa_cons (pe_tup (pa_cons pe_str (pa_cons pe_int pa_nil))) pa_nil)) pa_nil)))) (pa_cons (pe_g G_value gd (hr.mono (by decide)) (by rfl) T.g_value T.F_value.kp T.b_value .nil pass0 (pa_cons pe_int (pa_cons (pe_tup (pa_cons pe_str (pa_cons pe_int (pa_cons (pe_tup (pa_cons pe_str (pa_cons pe_str pa_nil))) pa_nil)))) (pa_cons (pe_lst (pa_cons (pe_tup (pa_cons pe_str (pa_cons pe_int pa_nil))) pa_nil)) pa_nil)))) (pa_cons (pe_g G_value gd (hr.mono (by decide)) (by rfl) T.g_value T.F_value.kp T.b_value .nil pass0 (pa_cons pe_int (pa_cons (pe_tup (pa_cons pe_str (pa_cons pe_int (pa_cons (pe_tup (pa_cons pe_str (pa_cons pe_int (pa_cons pe_str pa_nil)))) pa_nil)))) (pa_cons (pe_lst (pa_cons (pe_tup (pa_cons pe_str (pa_cons pe_int pa_nil))) pa_nil)) pa_nil)))) pa_nil)))))
      (pss_cons (ps_set (i := 3) sc_law.nd rfl (Or.inl rfl) (pe_op op_cat (pv 3) (pe_lst (pa_cons (pe_g G_value gd (hr.mono (by decide)) (by rfl) T.g_value T.F_value.kp T.b_value .nil pass0 (pa_cons pe_int (pa_cons pe_int (pa_cons (pe_lst pa_nil) pa_nil)))) (pa_cons (pe_g G_value gd (hr.mono (by decide)) (by rfl) T.g_value T.F_value.kp T.b_value .nil pass0 (pa_cons pe_int (pa_cons (pe_tup (pa_cons pe_str (pa_cons pe_str (pa_cons (pe_tup (pa_cons pe_str (pa_cons pe_str (pa_cons pe_int pa_nil)))) pa_nil)))) (pa_cons (pe_lst (pa_cons (pe_tup (pa_cons pe_str (pa_cons pe_int pa_nil))) (pa_cons (pe_tup (pa_cons pe_str (pa_cons pe_int pa_nil))) pa_nil))) pa_nil)))) (pa_cons (pe_g G_value gd (hr.mono (by decide)) (by rfl) T.g_value T.F_value.kp T.b_value .nil pass0 (pa_cons pe_int (pa_cons (pe_tup (pa_cons pe_str (pa_cons pe_int (pa_cons pe_int pa_nil)))) (pa_cons (pe_lst pa_nil) pa_nil)))) (pa_cons (pe_g G_value gd (hr.mono (by decide)) (by rfl) T.g_value T.F_value.kp T.b_value .nil pass0 (pa_cons pe_int (pa_cons (pe_tup (pa_cons pe_str (pa_cons pe_int (pa_cons (pe_un un_neg pe_int) pa_nil)))) (pa_cons (pe_lst pa_nil) pa_nil)))) pa_nil)))))))
      (pss_one (ps_ret (pe_cmpR op_eq (pe_callB (call_reprT gd hr.units) (by rfl) T.z_repr (by decide +kernel) (pa_cons (pv 3) pa_nil)) (pe_callB (call_reprT gd hr.units) (by rfl) T.z_repr (by decide +kernel) (pa_cons (pe_lst (pa_cons pe_int (pa_cons pe_int (pa_cons pe_int (pa_cons pe_int (pa_cons pe_int (pa_cons pe_int (pa_cons pe_int pa_nil)))))))) pa_nil)) (nomark _)))))))))), ?_⟩
  intro ns hN
  refine SX.seq (SX.ifM (TM.not (TM.tB (EM.callM (EA.cons (EM.gen (EA.cons ((EX.var rfl).em (EA.cons ((EX.int 4).em (EA.nil ⟨ns, 4, rfl, by decide, rfl, fun a => ?_⟩)))))))))))
  refine EA.nil ⟨a, rfl, rfl, rfl, fun N' => ⟨true, rfl, ?_⟩⟩
  rw [if_neg (by decide)]
  refine SX.dropAll (SX.next ?_)
  refine SX.seq (SX.for_ (IT.range1 (n := 3) (EAX.cons (EX.int 3) EAX.nil) (by decide)) (fun i g' => ∃ s1, g' = ⟨[.scr K ns, s1, .no, .no], [], [], [], []⟩) ⟨_, rfl⟩ ?_ ?_)
  · rintro i s _ hs ⟨s1, rfl⟩
    have hi := (List.getElem?_eq_some_iff.mp hs).1
    unfold rangeS at hs hi
    rw [List.length_map, List.length_range] at hi
    obtain ⟨i', hi', rfl⟩ := getElem?_map_some hs
    rw [List.getElem?_range hi] at hi'
    cases hi'
    rw [Int.zero_add]
    refine GX.name (SX.ifM (TM.not (TM.tB (EM.callM (EA.cons (EM.gen (EA.cons ((EX.var rfl).em (EA.cons ((EX.var rfl).em (EA.nil ⟨ns, i, rfl, by omega, rfl, fun a => ?_⟩)))))))))))
    refine EA.nil ⟨a, rfl, rfl, rfl, fun N' => ⟨true, rfl, ?_⟩⟩
    rw [if_neg (by decide)]
    exact SX.dropAll (SX.next ⟨_, rfl⟩)
  rintro _ ⟨s1, rfl⟩
  refine SX.seq (SX.setM (EM.op (EM.rnd (EA.cons (EM.gen (EA.cons ((EX.var rfl).em (EA.cons ((EX.int 3).em (EA.nil ⟨ns, 3, rfl, by decide, rfl, fun a => ?_⟩))))))))))
  refine EA.cons ((EX.int 2001).em (EA.nil ⟨a, 2001, 999, rfl, rfl, by decide, ?_, fun q hq => ?_⟩))
  · have : (2001 : Nat) < 2 ^ 2000 := by decide +kernel
    exact this
  refine (EX.int 1000).em ⟨_, c_i0, SX.dropAll ?_⟩
  have hz0 : ∀ x : Et, x.nms = [] → IsNames x (([] : List (Str × Int)).map (·.1)) := fun x hx => ⟨List.nodup_nil, rfl, fun z => by rw [hx]; exact Iff.rfl⟩
  have hf0 : ∀ wd, Filled wd four [] := fun wd p hp => nomatch hp
  have hzx : ∀ (x : Et) (v : Int), (∀ z, z ∈ x.nms ↔ z = "x") → IsNames x (([("x", v)] : List (Str × Int)).map (·.1)) := fun x v hx => ⟨by simp, rfl, fun z => by rw [hx]; exact List.mem_singleton⟩
  have hfx : ∀ (wd v : Nat), v < 2 ^ wd → Filled wd four [("x", (v : Int))] := fun wd v hv p hp => by
    rw [List.mem_singleton.mp hp]
    exact ⟨(by decide +kernel : ("x" : Str) ∈ four), v, rfl, hv⟩
  have xs : ∀ (g : GS) (v : Int), EX (tLst (tCons (tTup (tCons (tC (.str "x")) (tCons (tC (.int v)) tNil))) tNil)) g (.dat (.list (([("x", v)] : List (Str × Int)).map tiD))) := fun g v => EX.lst (ds := [tiD ("x", v)]) (EDs.ea (.cons (EX.tup (EDs.ea (.cons (EX.str _) (.cons (EX.int v) .nil)))) .nil))
  have x0 : ∀ g : GS, EX (tLst tNil) g (.dat (.list (([] : List (Str × Int)).map tiD))) := fun g => EX.lst (ds := []) EAX.nil
  refine SX.seq (SX.ifS (b := false) ((TX.or (TX.test (EX.neI (EX.valC 64 (.bin .minus (.int ((q : Int) - 1000)) (.int 0)) [] _ (EX.int 64) (EX.tup (ds := [.str "minus", .int ((q : Int) - 1000), .int 0]) (EDs.ea (.cons (EX.str _) (.cons (EX.var rfl) (.cons (EX.int 0) .nil))))) (x0 _) rfl (by decide) ⟨(by show ((q : Int) - 1000).natAbs ≤ 10000; omega), (by show (0 : Int).natAbs ≤ 10000; decide)⟩ (by show 1 ≤ 5; decide) (hz0 _ rfl) (hf0 _) (far_val _)) (EX.mod (EX.intI (EX.var rfl)) (EX.callR (d := .int (2 ^ 64)) (ds := [.int ((64 : Nat) : Int)]) (EAX.cons (EX.int 64) EAX.nil) ⟨64, rfl, by decide, rfl⟩) (p2pos 64)))) fun _ => TX.test (EX.neI (EX.valC 0 (.times 100 (.nm "x")) [("x", ((0 : Nat) : Int))] 0 (EX.int 0) (EX.tup (ds := [.str "times", .int 100, .str "x"]) (EDs.ea (.cons (EX.str _) (.cons (EX.int 100) (.cons (EX.str _) .nil))))) (xs _ 0) rfl (by decide) (by simp [Et.ok, four]) (by decide) (hzx _ _ fun z => by simp [Et.nms]) (hfx 0 0 (by decide)) (by decide +kernel)) (EX.int 0))).cast ?_) (fun z => nomatch z) fun _ => SX.next ?_)
  · rw [decide_eq_true rfl]; rfl
  refine SX.seq (SX.set (EX.lst (ds := [.int 15, .int 5, .int 6]) (EDs.ea (.cons (EX.valC 4 (.bin .plus (.nm "x") (.int (-3))) [("x", ((2 : Nat) : Int))] 15 (EX.int 4) (EX.tup (ds := [(.str "plus"), (.str "x"), (.int (-3))]) (EDs.ea (.cons (EX.str _) (.cons (EX.str _) (.cons (EX.neg (EX.int 3)) .nil))))) (xs _ 2) rfl (by decide) (by simp [Et.ok, four]) (by decide) (hzx _ _ fun z => by simp [Et.nms]) (hfx 4 2 (by decide)) (by decide +kernel)) (.cons (EX.valC 3 (.times (5) (.turned (.nm "x"))) [("x", ((6 : Nat) : Int))] 5 (EX.int 3) (EX.tup (ds := [(.str "times"), (.int (5)), (.tuple [(.str "turned"), (.str "x")])]) (EDs.ea (.cons (EX.str _) (.cons (EX.int 5) (.cons (EX.tup (ds := [(.str "turned"), (.str "x")]) (EDs.ea (.cons (EX.str _) (.cons (EX.str _) .nil)))) .nil))))) (xs _ 6) rfl (by decide) (by simp [Et.ok, four]) (by decide) (hzx _ _ fun z => by simp [Et.nms]) (hfx 3 6 (by decide)) (by decide +kernel)) (.cons (EX.valC 4 (.down 1 (.up 2 (.nm "x"))) [("x", ((7 : Nat) : Int))] 6 (EX.int 4) (EX.tup (ds := [(.str "down"), (.int (1)), (.tuple [(.str "up"), (.int (2)), (.str "x")])]) (EDs.ea (.cons (EX.str _) (.cons (EX.int 1) (.cons (EX.tup (ds := [(.str "up"), (.int (2)), (.str "x")]) (EDs.ea (.cons (EX.str _) (.cons (EX.int 2) (.cons (EX.str _) .nil))))) .nil))))) (xs _ 7) rfl (by decide) (by simp [Et.ok, four]) (by decide) (hzx _ _ fun z => by simp [Et.nms]) (hfx 4 7 (by decide)) (by decide +kernel)) .nil))))) ?_)
  refine SX.seq (SX.set (EX.cat (EX.var rfl) (EX.lst (ds := [.int 0, .int 7, .int 0, .int 0]) (EDs.ea (.cons (EX.valC 0 (.int (5)) [] 0 (EX.int 0) (EX.int 5) (x0 _) rfl (by decide) (by simp [Et.ok, four]) (by decide) (hz0 _ rfl) (hf0 _) (by decide +kernel)) (.cons (EX.valC 4 (.bin .unlike (.nm "x") (.bin .both (.nm "y") (.int (6)))) [("x", ((5 : Nat) : Int)), ("y", ((3 : Nat) : Int))] 7 (EX.int 4) (EX.tup (ds := [(.str "unlike"), (.str "x"), (.tuple [(.str "both"), (.str "y"), (.int (6))])]) (EDs.ea (.cons (EX.str _) (.cons (EX.str _) (.cons (EX.tup (ds := [(.str "both"), (.str "y"), (.int (6))]) (EDs.ea (.cons (EX.str _) (.cons (EX.str _) (.cons (EX.int 6) .nil))))) .nil))))) (EX.lst (ds := [tiD ("x", 5), tiD ("y", 3)]) (EDs.ea (.cons (EX.tup (EDs.ea (.cons (EX.str _) (.cons (EX.int _) .nil)))) (.cons (EX.tup (EDs.ea (.cons (EX.str _) (.cons (EX.int _) .nil)))) .nil)))) rfl (by decide) (by simp [Et.ok, four]) (by decide) ⟨by decide +kernel, by decide +kernel, fun z => by simp [Et.nms]⟩ (fun p hp => by
    simp only [List.mem_cons, List.not_mem_nil, or_false] at hp
    rcases hp with rfl | rfl
    · exact ⟨by decide +kernel, 5, rfl, by decide⟩
    · exact ⟨by decide +kernel, 3, rfl, by decide⟩) (by decide +kernel)) (.cons (EX.valC 2 (.up 8 (.int (3))) [] 0 (EX.int 2) (EX.tup (ds := [(.str "up"), (.int (8)), (.int (3))]) (EDs.ea (.cons (EX.str _) (.cons (EX.int 8) (.cons (EX.int 3) .nil))))) (x0 _) rfl (by decide) (by simp [Et.ok, four]) (by decide) (hz0 _ rfl) (hf0 _) (by decide +kernel)) (.cons (EX.valC 3 (.down 8 (.int (-1))) [] 0 (EX.int 3) (EX.tup (ds := [(.str "down"), (.int (8)), (.int (-1))]) (EDs.ea (.cons (EX.str _) (.cons (EX.int 8) (.cons (EX.neg (EX.int 1)) .nil))))) (x0 _) rfl (by decide) (by simp [Et.ok, four]) (by decide) (hz0 _ rfl) (hf0 _) (by decide +kernel)) .nil)))))) (by simp)) ?_)
  have sR : Shows (.list [.int 15, .int 5, .int 6, .int 0, .int 7, .int 0, .int 0]) := (show Nice (.list [.int 15, .int 5, .int 6, .int 0, .int 7, .int 0, .int 0]) from ⟨by decide +kernel, by decide +kernel, by decide +kernel⟩).shows
  refine SX.ret ((EX.eqS (EX.repr (d := .list [.int 15, .int 5, .int 6, .int 0, .int 7, .int 0, .int 0]) (EX.var rfl) sR) (EX.repr (EX.lst (ds := [.int 15, .int 5, .int 6, .int 0, .int 7, .int 0, .int 0]) (EDs.ea (.cons (EX.int 15) (.cons (EX.int 5) (.cons (EX.int 6) (.cons (EX.int 0) (.cons (EX.int 7) (.cons (EX.int 0) (.cons (EX.int 0) .nil))))))))) sR)).dat (congrArg PyData.bool (decide_eq_true rfl))) ⟨rfl, rfl, rfl⟩
end

end K07

set_option Elab.async false
set_option linter.all false
set_option maxRecDepth 100000
set_option maxHeartbeats 0
/-! ### the end -/
namespace K07E
open PySem PySem.Spec PyProof.Rows L2 Hw K07
def d_is_whole : He.DefD := ⟨("is_whole", none), "is_whole", "is_whole", defArgs s_is_whole, defBody s_is_whole, defScope s_is_whole, [], []⟩
def d_is_count : He.DefD := ⟨("is_count", none), "is_count", "is_count", defArgs s_is_count, defBody s_is_count, defScope s_is_count, [], []⟩
def d_is_count_to : He.DefD := ⟨("is_count_to", none), "is_count_to", "is_count_to", defArgs s_is_count_to, defBody s_is_count_to, defScope s_is_count_to, [], []⟩
def d_is_word_of : He.DefD := ⟨("is_word_of", none), "is_word_of", "is_word_of", defArgs s_is_word_of, defBody s_is_word_of, defScope s_is_word_of, [], []⟩
def d_check_width : He.DefD := ⟨("check_width", none), "check_width", "check_width", defArgs s_check_width, defBody s_check_width, defScope s_check_width, [], []⟩
def d_check_width_to : He.DefD := ⟨("check_width_to", none), "check_width_to", "check_width_to", defArgs s_check_width_to, defBody s_check_width_to, defScope s_check_width_to, [], []⟩
def d_is_name : He.DefD := ⟨("is_name", none), "is_name", "is_name", defArgs s_is_name, defBody s_is_name, defScope s_is_name, [], []⟩
def d_is_name_end : He.DefD := ⟨("is_name_end", none), "is_name_end", "is_name_end", defArgs s_is_name_end, defBody s_is_name_end, defScope s_is_name_end, [], []⟩
def d_first_word : He.DefD := ⟨("first_word", none), "first_word", "first_word", defArgs s_first_word, defBody s_first_word, defScope s_first_word, [], []⟩
def d_fits : He.DefD := ⟨("fits", none), "fits", "fits", defArgs s_fits, defBody s_fits, defScope s_fits, [], []⟩
def d_has_parts : He.DefD := ⟨("has_parts", none), "has_parts", "has_parts", defArgs s_has_parts, defBody s_has_parts, defScope s_has_parts, [], []⟩
def d_is_expression : He.DefD := ⟨("is_expression", none), "is_expression", "is_expression", defArgs s_is_expression, defBody s_is_expression, defScope s_is_expression, [], []⟩
def d_claim_parts : He.DefD := ⟨("claim_parts", none), "claim_parts", "claim_parts", defArgs s_claim_parts, defBody s_claim_parts, defScope s_claim_parts, [], []⟩
def d_is_filling_of : He.DefD := ⟨("is_filling_of", none), "is_filling_of", "is_filling_of", defArgs s_is_filling_of, defBody s_is_filling_of, defScope s_is_filling_of, [], []⟩
def d_is_filled : He.DefD := ⟨("is_filled", none), "is_filled", "is_filled", defArgs s_is_filled, defBody s_is_filled, defScope s_is_filled, [], []⟩
def d_check_expression : He.DefD := ⟨("check_expression", none), "check_expression", "check_expression", defArgs s_check_expression, defBody s_check_expression, defScope s_check_expression, [], []⟩
def d_check_filling : He.DefD := ⟨("check_filling", none), "check_filling", "check_filling", defArgs s_check_filling, defBody s_check_filling, defScope s_check_filling, [], []⟩
def d_parts_of : He.DefD := ⟨("parts_of", none), "parts_of", "parts_of", defArgs s_parts_of, defBody s_parts_of, defScope s_parts_of, [], []⟩
def d_names_standing : He.DefD := ⟨("names_standing", none), "names_standing", "names_standing", defArgs s_names_standing, defBody s_names_standing, defScope s_names_standing, [], []⟩
def d_names_of_expression : He.DefD := ⟨("names_of_expression", none), "names_of_expression", "names_of_expression", defArgs s_names_of_expression, defBody s_names_of_expression, defScope s_names_of_expression, [], []⟩
def d_value : He.DefD := ⟨("value", none), "value", "value", defArgs s_value, defBody s_value, defScope s_value, [], []⟩
def d_value_with : He.DefD := ⟨("value_with", none), "value_with", "value_with", defArgs s_value_with, defBody s_value_with, defScope s_value_with, [], []⟩
def d_plain_value : He.DefD := ⟨("plain_value", none), "plain_value", "plain_value", defArgs s_plain_value, defBody s_plain_value, defScope s_plain_value, [], []⟩
def d_law_hash : He.DefD := ⟨("_law_hash", none), "_law_hash", "_law_hash", defArgs s_law_hash, defBody s_law_hash, defScope s_law_hash, [], []⟩
def d_law_random : He.DefD := ⟨("_law_random", none), "_law_random", "_law_random", defArgs s_law_random, defBody s_law_random, defScope s_law_random, [], []⟩
def d_law_cell : He.DefD := ⟨("_law_cell", none), "_law_cell", "_law_cell", defArgs s_law_cell, defBody s_law_cell, defScope s_law_cell, [], []⟩
def d_law_generator : He.DefD := ⟨("_law_generator", none), "_law_generator", "_law_generator", defArgs s_law_generator, defBody s_law_generator, defScope s_law_generator, [], []⟩
def d_law_power : He.DefD := ⟨("_law_power", none), "_law_power", "_law_power", defArgs s_law_power, defBody s_law_power, defScope s_law_power, [], []⟩
def d_law_bit : He.DefD := ⟨("_law_bit", none), "_law_bit", "_law_bit", defArgs s_law_bit, defBody s_law_bit, defScope s_law_bit, [], []⟩
def d_law_value : He.DefD := ⟨("_law_value", none), "_law_value", "_law_value", defArgs s_law_value, defBody s_law_value, defScope s_law_value, [], []⟩
def d_law_expression : He.DefD := ⟨("_law_expression", none), "_law_expression", "_law_expression", defArgs s_law_expression, defBody s_law_expression, defScope s_law_expression, [], []⟩
def d_law_told_names : He.DefD := ⟨("_law_told_names", none), "_law_told_names", "_law_told_names", defArgs s_law_told_names, defBody s_law_told_names, defScope s_law_told_names, [], []⟩
def d_law_words : He.DefD := ⟨("_law_words", none), "_law_words", "_law_words", defArgs s_law_words, defBody s_law_words, defScope s_law_words, [], []⟩
def d_law_right : He.DefD := ⟨("_law_right", none), "_law_right", "_law_right", defArgs s_law_right, defBody s_law_right, defScope s_law_right, [], []⟩
def d_law_wide_right : He.DefD := ⟨("_law_wide_right", none), "_law_wide_right", "_law_wide_right", defArgs s_law_wide_right, defBody s_law_wide_right, defScope s_law_wide_right, [], []⟩
def d_law : He.DefD := ⟨("law", none), "law", "law", defArgs s_law, defBody s_law, defScope s_law, [], []⟩
def fn : List He.DefD := [d_is_whole, d_is_count, d_is_count_to, d_is_word_of, d_check_width, d_check_width_to, d_is_name, d_is_name_end, d_first_word, d_fits, d_has_parts, d_is_expression, d_claim_parts, d_is_filling_of, d_is_filled, d_check_expression, d_check_filling, d_parts_of, d_names_standing, d_names_of_expression, d_value, d_value_with, d_plain_value, d_law_hash, d_law_random, d_law_cell, d_law_generator, d_law_power, d_law_bit, d_law_value, d_law_expression, d_law_told_names, d_law_words, d_law_right, d_law_wide_right, d_law]
def fa0 : List He.Fa := [.glo "is_whole", .glo "is_count", .glo "is_count_to", .glo "is_word_of", .glo "check_width", .glo "check_width_to", .glo "is_name", .glo "is_name_end", .glo "first_word", .glo "fits", .glo "has_parts", .glo "is_expression", .glo "claim_parts", .glo "is_filling_of", .glo "is_filled", .glo "check_expression", .glo "check_filling", .glo "parts_of", .glo "names_standing", .glo "names_of_expression"]
def fa1 : List He.Fa := [.glo "value", .glo "value_with", .glo "plain_value", .glo "_law_hash", .glo "_law_random", .glo "_law_cell", .glo "_law_generator", .glo "_law_power", .glo "_law_bit", .glo "_law_value", .glo "_law_expression", .glo "_law_told_names", .glo "_law_words", .glo "_law_right", .glo "_law_wide_right", .glo "law", .glo "NO_NAMES", .glo "EXPRESSION_PARTS", .glo "CLAIM_PARTS", .free "all"]
def fa2 : List He.Fa := [.free "bool", .free "dict", .free "int", .free "isinstance", .free "len", .free "list", .free "max", .free "min", .free "range", .free "repr", .free "set", .free "sorted", .free "str", .free "sum", .free "tuple", .free "zip", .int "MOST_WIDTH" 64, .int "MOST_LETTERS" 6, .int "MOST_FIGURES" 4, .str "LETTERS" "abcdefghijklmnopqrstuvwxyz"]
def fa3 : List He.Fa := [.str "FIGURES" "0123456789"]
def fa : List He.Fa := fa0 ++ fa1 ++ fa2 ++ fa3
def chk (K : PySem.W.Frag) : Bool := (tupS K (He.ga K "NO_NAMES") noNames && (tabV K (He.ga K "EXPRESSION_PARTS") exprT && (tabV K (He.ga K "CLAIM_PARTS") claimT && true)))
def ts : List He.Tab := [(fun K => He.ga K "EXPRESSION_PARTS", exprT.map (·.1)), (fun K => He.ga K "CLAIM_PARTS", claimT.map (·.1))]
abbrev R : PySem.W.OpenRow := PySem.W.OpenLaw.row PySem.Challenge.rw_howeverwide_k07_whole_values
abbrev hk : PySem.W.Hook := hookP 6 fa fn chk ts
def ob (s : PySem.W.SharedT) : AlP := obsPG 6 fa fn chk ts (HandSHeadRun.getT s)
theorem ob_eq (s : PySem.W.SharedT) : ob s = hk.obs s.abs := obsPG_eq (HandSHeadRun.getT_eq s)
def loose0 : List PySem.Str := ["ClaimError", "InvalidWidth", "InvalidExpression", "InvalidFilling", "MOST_WIDTH", "MOST_NAMES", "is_whole", "is_count", "is_count_to", "is_word_of", "check_width", "check_width_to", "is_table_form", "is_step", "LETTERS", "FIGURES", "MOST_LETTERS", "MOST_FIGURES", "NO_NAMES", "EXPRESSION_PARTS"]
def loose1 : List PySem.Str := ["CLAIM_PARTS", "is_name", "is_name_end", "first_word", "fits", "has_parts", "is_expression", "is_claim", "claim_parts", "is_told", "is_list_of_names", "is_filling_of", "is_filled", "check_expression", "check_filling", "parts_of", "names_standing", "names_of_expression", "value", "value_with"]
def loose2 : List PySem.Str := ["plain_value", "_law_hash", "_law_random", "_law_cell", "_law_generator", "_law_power", "_law_bit", "_law_value", "_law_signed", "_law_takes", "_law_holds", "_law_expression", "_law_table", "_law_claim", "_law_told_names", "_law_free", "_law_fillings", "_law_words", "_law_right", "_law_wide_right"]
def loose : List PySem.Str := loose0 ++ loose1 ++ loose2
theorem run (w : World) : HandSHeadRun.RunEq R (PySem.W.view R.prog [65]) hk ob 6000 loose w := by
  refine PySem.W.byRow2 "special-get-raises" (P := fun w => HandSHeadRun.RunEq R (PySem.W.view R.prog [65]) hk ob 6000 loose w) ?_ ?_ w
  · intro w os
    kernel_rfl
  · intro w os
    kernel_rfl
theorem facts {P : Program} {w : World} {K : PySem.W.Frag} {h : Heap} {mg : Str → Option Value} {f : Addr} (X : K.In h) (G : h.Ns mainGlobals mg) (hfa : mg ("law" : Str) = some (.ref f)) (cx : SaysP fa fn chk ts w K) :
    ∃ fd : FuncData, (∀ (s : Shared) (v : Value), BindsTo s fd ⟨[v], []⟩ [("_law_script", v)]) ∧ ∀ base : Heap, K.In base → base.Ns mainGlobals mg → FnG P w K mg base CX0 23 f fd ["_law_script"] (spLaw K) := by
  obtain ⟨c, ck0, tk0⟩ := cx.says
  obtain ⟨ck_0, ck1⟩ := He.ba ck0
  obtain ⟨ck_1, ck2⟩ := He.ba ck1
  obtain ⟨ck_2, ck3⟩ := He.ba ck2
  injection tk0 with tk_0 tk1
  injection tk1 with tk_1 tk2
  obtain ⟨e_is_whole, F_is_whole⟩ := c.def_ 0 (d := d_is_whole) rfl
  obtain ⟨e_is_count, F_is_count⟩ := c.def_ 1 (d := d_is_count) rfl
  obtain ⟨e_is_count_to, F_is_count_to⟩ := c.def_ 2 (d := d_is_count_to) rfl
  obtain ⟨e_is_word_of, F_is_word_of⟩ := c.def_ 3 (d := d_is_word_of) rfl
  obtain ⟨e_check_width, F_check_width⟩ := c.def_ 4 (d := d_check_width) rfl
  obtain ⟨e_check_width_to, F_check_width_to⟩ := c.def_ 5 (d := d_check_width_to) rfl
  obtain ⟨e_is_name, F_is_name⟩ := c.def_ 6 (d := d_is_name) rfl
  obtain ⟨e_is_name_end, F_is_name_end⟩ := c.def_ 7 (d := d_is_name_end) rfl
  obtain ⟨e_first_word, F_first_word⟩ := c.def_ 8 (d := d_first_word) rfl
  obtain ⟨e_fits, F_fits⟩ := c.def_ 9 (d := d_fits) rfl
  obtain ⟨e_has_parts, F_has_parts⟩ := c.def_ 10 (d := d_has_parts) rfl
  obtain ⟨e_is_expression, F_is_expression⟩ := c.def_ 11 (d := d_is_expression) rfl
  obtain ⟨e_claim_parts, F_claim_parts⟩ := c.def_ 12 (d := d_claim_parts) rfl
  obtain ⟨e_is_filling_of, F_is_filling_of⟩ := c.def_ 13 (d := d_is_filling_of) rfl
  obtain ⟨e_is_filled, F_is_filled⟩ := c.def_ 14 (d := d_is_filled) rfl
  obtain ⟨e_check_expression, F_check_expression⟩ := c.def_ 15 (d := d_check_expression) rfl
  obtain ⟨e_check_filling, F_check_filling⟩ := c.def_ 16 (d := d_check_filling) rfl
  obtain ⟨e_parts_of, F_parts_of⟩ := c.def_ 17 (d := d_parts_of) rfl
  obtain ⟨e_names_standing, F_names_standing⟩ := c.def_ 18 (d := d_names_standing) rfl
  obtain ⟨e_names_of_expression, F_names_of_expression⟩ := c.def_ 19 (d := d_names_of_expression) rfl
  obtain ⟨e_value, F_value⟩ := c.def_ 20 (d := d_value) rfl
  obtain ⟨e_value_with, F_value_with⟩ := c.def_ 21 (d := d_value_with) rfl
  obtain ⟨e_plain_value, F_plain_value⟩ := c.def_ 22 (d := d_plain_value) rfl
  obtain ⟨e_law_hash, F_law_hash⟩ := c.def_ 23 (d := d_law_hash) rfl
  obtain ⟨e_law_random, F_law_random⟩ := c.def_ 24 (d := d_law_random) rfl
  obtain ⟨e_law_cell, F_law_cell⟩ := c.def_ 25 (d := d_law_cell) rfl
  obtain ⟨e_law_generator, F_law_generator⟩ := c.def_ 26 (d := d_law_generator) rfl
  obtain ⟨e_law_power, F_law_power⟩ := c.def_ 27 (d := d_law_power) rfl
  obtain ⟨e_law_bit, F_law_bit⟩ := c.def_ 28 (d := d_law_bit) rfl
  obtain ⟨e_law_value, F_law_value⟩ := c.def_ 29 (d := d_law_value) rfl
  obtain ⟨e_law_expression, F_law_expression⟩ := c.def_ 30 (d := d_law_expression) rfl
  obtain ⟨e_law_told_names, F_law_told_names⟩ := c.def_ 31 (d := d_law_told_names) rfl
  obtain ⟨e_law_words, F_law_words⟩ := c.def_ 32 (d := d_law_words) rfl
  obtain ⟨e_law_right, F_law_right⟩ := c.def_ 33 (d := d_law_right) rfl
  obtain ⟨e_law_wide_right, F_law_wide_right⟩ := c.def_ 34 (d := d_law_wide_right) rfl
  obtain ⟨e_law, F_law⟩ := c.def_ 35 (d := d_law) rfl
  have g_is_whole := He.glo_ok X G (c.fact 0 (f := .glo "is_whole") rfl)
  have g_is_count := He.glo_ok X G (c.fact 1 (f := .glo "is_count") rfl)
  have g_is_count_to := He.glo_ok X G (c.fact 2 (f := .glo "is_count_to") rfl)
  have g_is_word_of := He.glo_ok X G (c.fact 3 (f := .glo "is_word_of") rfl)
  have g_check_width := He.glo_ok X G (c.fact 4 (f := .glo "check_width") rfl)
  have g_check_width_to := He.glo_ok X G (c.fact 5 (f := .glo "check_width_to") rfl)
  have g_is_name := He.glo_ok X G (c.fact 6 (f := .glo "is_name") rfl)
  have g_is_name_end := He.glo_ok X G (c.fact 7 (f := .glo "is_name_end") rfl)
  have g_first_word := He.glo_ok X G (c.fact 8 (f := .glo "first_word") rfl)
  have g_fits := He.glo_ok X G (c.fact 9 (f := .glo "fits") rfl)
  have g_has_parts := He.glo_ok X G (c.fact 10 (f := .glo "has_parts") rfl)
  have g_is_expression := He.glo_ok X G (c.fact 11 (f := .glo "is_expression") rfl)
  have g_claim_parts := He.glo_ok X G (c.fact 12 (f := .glo "claim_parts") rfl)
  have g_is_filling_of := He.glo_ok X G (c.fact 13 (f := .glo "is_filling_of") rfl)
  have g_is_filled := He.glo_ok X G (c.fact 14 (f := .glo "is_filled") rfl)
  have g_check_expression := He.glo_ok X G (c.fact 15 (f := .glo "check_expression") rfl)
  have g_check_filling := He.glo_ok X G (c.fact 16 (f := .glo "check_filling") rfl)
  have g_parts_of := He.glo_ok X G (c.fact 17 (f := .glo "parts_of") rfl)
  have g_names_standing := He.glo_ok X G (c.fact 18 (f := .glo "names_standing") rfl)
  have g_names_of_expression := He.glo_ok X G (c.fact 19 (f := .glo "names_of_expression") rfl)
  have g_value := He.glo_ok X G (c.fact 20 (f := .glo "value") rfl)
  have g_value_with := He.glo_ok X G (c.fact 21 (f := .glo "value_with") rfl)
  have g_plain_value := He.glo_ok X G (c.fact 22 (f := .glo "plain_value") rfl)
  have g_law_hash := He.glo_ok X G (c.fact 23 (f := .glo "_law_hash") rfl)
  have g_law_random := He.glo_ok X G (c.fact 24 (f := .glo "_law_random") rfl)
  have g_law_cell := He.glo_ok X G (c.fact 25 (f := .glo "_law_cell") rfl)
  have g_law_generator := He.glo_ok X G (c.fact 26 (f := .glo "_law_generator") rfl)
  have g_law_power := He.glo_ok X G (c.fact 27 (f := .glo "_law_power") rfl)
  have g_law_bit := He.glo_ok X G (c.fact 28 (f := .glo "_law_bit") rfl)
  have g_law_value := He.glo_ok X G (c.fact 29 (f := .glo "_law_value") rfl)
  have g_law_expression := He.glo_ok X G (c.fact 30 (f := .glo "_law_expression") rfl)
  have g_law_told_names := He.glo_ok X G (c.fact 31 (f := .glo "_law_told_names") rfl)
  have g_law_words := He.glo_ok X G (c.fact 32 (f := .glo "_law_words") rfl)
  have g_law_right := He.glo_ok X G (c.fact 33 (f := .glo "_law_right") rfl)
  have g_law_wide_right := He.glo_ok X G (c.fact 34 (f := .glo "_law_wide_right") rfl)
  have g_law := He.glo_ok X G (c.fact 35 (f := .glo "law") rfl)
  have g_NO_NAMES := He.glo_ok X G (c.fact 36 (f := .glo "NO_NAMES") rfl)
  have g_EXPRESSION_PARTS := He.glo_ok X G (c.fact 37 (f := .glo "EXPRESSION_PARTS") rfl)
  have g_CLAIM_PARTS := He.glo_ok X G (c.fact 38 (f := .glo "CLAIM_PARTS") rfl)
  have i_MOST_WIDTH : ∃ u, mg "MOST_WIDTH" = some u ∧ RelV (.int 64) u := by
    obtain ⟨t, q⟩ := He.int_ok X G (c.fact 56 (f := .int "MOST_WIDTH" 64) rfl)
    exact ⟨_, q, t, rfl⟩
  have i_MOST_LETTERS : ∃ u, mg "MOST_LETTERS" = some u ∧ RelV (.int 6) u := by
    obtain ⟨t, q⟩ := He.int_ok X G (c.fact 57 (f := .int "MOST_LETTERS" 6) rfl)
    exact ⟨_, q, t, rfl⟩
  have i_MOST_FIGURES : ∃ u, mg "MOST_FIGURES" = some u ∧ RelV (.int 4) u := by
    obtain ⟨t, q⟩ := He.int_ok X G (c.fact 58 (f := .int "MOST_FIGURES" 4) rfl)
    exact ⟨_, q, t, rfl⟩
  have i_LETTERS : ∃ u, mg "LETTERS" = some u ∧ RelV (.str "abcdefghijklmnopqrstuvwxyz") u := by
    obtain ⟨t, q⟩ := He.str_ok X G (c.fact 59 (f := .str "LETTERS" "abcdefghijklmnopqrstuvwxyz") rfl)
    exact ⟨_, q, t, rfl⟩
  have i_FIGURES : ∃ u, mg "FIGURES" = some u ∧ RelV (.str "0123456789") u := by
    obtain ⟨t, q⟩ := He.str_ok X G (c.fact 60 (f := .str "FIGURES" "0123456789") rfl)
    exact ⟨_, q, t, rfl⟩
  have e := hfa.symm.trans g_law
  cases e
  let T : Tx w K mg := { a_is_whole := _, d_is_whole := e_is_whole, F_is_whole := F_is_whole, g_is_whole := g_is_whole, a_is_count := _, d_is_count := e_is_count, F_is_count := F_is_count, g_is_count := g_is_count, a_is_count_to := _, d_is_count_to := e_is_count_to, F_is_count_to := F_is_count_to, g_is_count_to := g_is_count_to, a_is_word_of := _, d_is_word_of := e_is_word_of, F_is_word_of := F_is_word_of, g_is_word_of := g_is_word_of, a_check_width := _, d_check_width := e_check_width, F_check_width := F_check_width, g_check_width := g_check_width, a_check_width_to := _, d_check_width_to := e_check_width_to, F_check_width_to := F_check_width_to, g_check_width_to := g_check_width_to, a_is_name := _, d_is_name := e_is_name, F_is_name := F_is_name, g_is_name := g_is_name, a_is_name_end := _, d_is_name_end := e_is_name_end, F_is_name_end := F_is_name_end, g_is_name_end := g_is_name_end, a_first_word := _, d_first_word := e_first_word, F_first_word := F_first_word, g_first_word := g_first_word, a_fits := _, d_fits := e_fits, F_fits := F_fits, g_fits := g_fits, a_has_parts := _, d_has_parts := e_has_parts, F_has_parts := F_has_parts, g_has_parts := g_has_parts, a_is_expression := _, d_is_expression := e_is_expression, F_is_expression := F_is_expression, g_is_expression := g_is_expression, a_claim_parts := _, d_claim_parts := e_claim_parts, F_claim_parts := F_claim_parts, g_claim_parts := g_claim_parts, a_is_filling_of := _, d_is_filling_of := e_is_filling_of, F_is_filling_of := F_is_filling_of, g_is_filling_of := g_is_filling_of, a_is_filled := _, d_is_filled := e_is_filled, F_is_filled := F_is_filled, g_is_filled := g_is_filled, a_check_expression := _, d_check_expression := e_check_expression, F_check_expression := F_check_expression, g_check_expression := g_check_expression, a_check_filling := _, d_check_filling := e_check_filling, F_check_filling := F_check_filling, g_check_filling := g_check_filling, a_parts_of := _, d_parts_of := e_parts_of, F_parts_of := F_parts_of, g_parts_of := g_parts_of, a_names_standing := _, d_names_standing := e_names_standing, F_names_standing := F_names_standing, g_names_standing := g_names_standing, a_names_of_expression := _, d_names_of_expression := e_names_of_expression, F_names_of_expression := F_names_of_expression, g_names_of_expression := g_names_of_expression, a_value := _, d_value := e_value, F_value := F_value, g_value := g_value, a_value_with := _, d_value_with := e_value_with, F_value_with := F_value_with, g_value_with := g_value_with, a_plain_value := _, d_plain_value := e_plain_value, F_plain_value := F_plain_value, g_plain_value := g_plain_value, a_law_hash := _, d_law_hash := e_law_hash, F_law_hash := F_law_hash, g_law_hash := g_law_hash, a_law_random := _, d_law_random := e_law_random, F_law_random := F_law_random, g_law_random := g_law_random, a_law_cell := _, d_law_cell := e_law_cell, F_law_cell := F_law_cell, g_law_cell := g_law_cell, a_law_generator := _, d_law_generator := e_law_generator, F_law_generator := F_law_generator, g_law_generator := g_law_generator, a_law_power := _, d_law_power := e_law_power, F_law_power := F_law_power, g_law_power := g_law_power, a_law_bit := _, d_law_bit := e_law_bit, F_law_bit := F_law_bit, g_law_bit := g_law_bit, a_law_value := _, d_law_value := e_law_value, F_law_value := F_law_value, g_law_value := g_law_value, a_law_expression := _, d_law_expression := e_law_expression, F_law_expression := F_law_expression, g_law_expression := g_law_expression, a_law_told_names := _, d_law_told_names := e_law_told_names, F_law_told_names := F_law_told_names, g_law_told_names := g_law_told_names, a_law_words := _, d_law_words := e_law_words, F_law_words := F_law_words, g_law_words := g_law_words, a_law_right := _, d_law_right := e_law_right, F_law_right := F_law_right, g_law_right := g_law_right, a_law_wide_right := _, d_law_wide_right := e_law_wide_right, F_law_wide_right := F_law_wide_right, g_law_wide_right := g_law_wide_right, a_law := _, d_law := e_law, F_law := F_law, g_law := g_law, z_all := He.free_ok X G (c.fact 39 (f := .free "all") rfl), z_bool := He.free_ok X G (c.fact 40 (f := .free "bool") rfl), z_dict := He.free_ok X G (c.fact 41 (f := .free "dict") rfl), z_int := He.free_ok X G (c.fact 42 (f := .free "int") rfl), z_isinstance := He.free_ok X G (c.fact 43 (f := .free "isinstance") rfl), z_len := He.free_ok X G (c.fact 44 (f := .free "len") rfl), z_list := He.free_ok X G (c.fact 45 (f := .free "list") rfl), z_max := He.free_ok X G (c.fact 46 (f := .free "max") rfl), z_min := He.free_ok X G (c.fact 47 (f := .free "min") rfl), z_range := He.free_ok X G (c.fact 48 (f := .free "range") rfl), z_repr := He.free_ok X G (c.fact 49 (f := .free "repr") rfl), z_set := He.free_ok X G (c.fact 50 (f := .free "set") rfl), z_sorted := He.free_ok X G (c.fact 51 (f := .free "sorted") rfl), z_str := He.free_ok X G (c.fact 52 (f := .free "str") rfl), z_sum := He.free_ok X G (c.fact 53 (f := .free "sum") rfl), z_tuple := He.free_ok X G (c.fact 54 (f := .free "tuple") rfl), z_zip := He.free_ok X G (c.fact 55 (f := .free "zip") rfl), c_MOST_WIDTH := i_MOST_WIDTH, c_MOST_LETTERS := i_MOST_LETTERS, c_MOST_FIGURES := i_MOST_FIGURES, c_LETTERS := i_LETTERS, c_FIGURES := i_FIGURES, a_NO_NAMES := He.ga K "NO_NAMES", c_NO_NAMES := ⟨_, g_NO_NAMES, rfl⟩, t_NO_NAMES := tupS_ok ck_0, a_EXPRESSION_PARTS := He.ga K "EXPRESSION_PARTS", c_EXPRESSION_PARTS := ⟨_, g_EXPRESSION_PARTS, rfl⟩, t_EXPRESSION_PARTS := ktabs_ok tk_0 ck_1, a_CLAIM_PARTS := He.ga K "CLAIM_PARTS", c_CLAIM_PARTS := ⟨_, g_CLAIM_PARTS, rfl⟩, t_CLAIM_PARTS := ktabs_ok tk_1 ck_2 }
  have b := FunD.bindsA (ps := ["_law_script"]) F_law fun _ _ _ _ _ _ us hl => match us, hl with | [_], _ => rfl
  exact ⟨e_law, fun s v => b s [v] rfl, fun base _ _ => ok_law T⟩
end K07E
open PySem PySem.W PySem.Calls PyProof.Rows
set_option maxRecDepth 100000 in
set_option maxHeartbeats 0 in
theorem PySem.Challenge.cw_howeverwide_k07_whole_values_holds : PySem.Challenge.rw_howeverwide_k07_whole_values.Holds := by
  w_on; o_law
  refine HandSHeadRun.head_any (r := OpenLaw.row PySem.Challenge.rw_howeverwide_k07_whole_values) (q := view (OpenLaw.row PySem.Challenge.rw_howeverwide_k07_whole_values).prog [65]) (H := K07E.hk) (ob := K07E.ob) (M := 6000) (loose := K07E.loose) (d := HandSHeadRun.topDef (OpenLaw.row PySem.Challenge.rw_howeverwide_k07_whole_values).prog 65) (kwd := []) K07E.ob_eq
    (by kernel_rfl) (fun s => by kernel_rfl) K07E.run (by kernel_rfl) (by kernel_rfl) (by kernel_rfl) (by rfl) (by first | assumption | decide +kernel) (by decide +kernel) ⟨rfl, rfl, rfl, rfl, rfl, by decide +kernel⟩ ?hw ?hc
  case hw => w_witness2
  case hc =>
    refine Hw.walkG (l := PySem.Challenge.rw_howeverwide_k07_whole_values) (n := 63) (k := 23) (x := "_law_script") rfl (by decide) (by kernel_rfl) ⟨rfl, by decide, by decide⟩ ?F
    intro w mg fa h Y G hmg0
    obtain ⟨K, KX, c⟩ := Y
    have hmg : mg ("law" : PySem.Str) = some (.ref fa) := by
      have e : (HandSHeadRun.topDef (OpenLaw.row PySem.Challenge.rw_howeverwide_k07_whole_values).prog 65).name = ("law" : PySem.Str) := by kernel_rfl
      rw [← e]
      exact hmg0
    obtain ⟨fd, hb, hF⟩ := K07E.facts (P := (PySem.Challenge.rw_howeverwide_k07_whole_values).prog) (w := w) KX G hmg c
    exact ⟨K, fd, Hw.spLaw K, KX, hb, fun H a ns hl _ hS => ⟨a, ns, rfl, hl, hS, fun _ => rfl⟩, hF⟩
