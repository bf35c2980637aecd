import PyProof.Rows.All
import Wide.All
import OpenK.AllK
import Wide.FinOn
import HandS.ForMost
import HandS.ForExc
import HandS.AnyAll
import HandS.EndTab
import HandS.GenList
import HandS.TupAny
import HandS.Wide
import HandS.TupMul
import HandS.Deep
import HandS.More
import HandS.RaiseMore
import HandS.GenBody
import HandS.GenCall
import HandS.GenYield
import PyProof.TupleOfGen
import HandS.Nested
import KE.KNest
import KE.KNestM
import HandS.IsInst
import HandS.Strs
import PyProof.EnumMake
import PyProof.Draws
import KE.GoesMore
import HandS.Zip
import HandS.SetFor
import HandS.Style
import HandS.ExcInit
import HandS.ExcField
import HandS.ExcIs
import HandS.TryOnly
import HandS.FStr
import KE.KExcIs
import HandS.ClsMeth
import KE.KDictZip
import HandS.Conv
import HandS.Flow
import PyProof.Rows.StrJoinRep
import PySem.Challenge.RW_bowstands_k20_whole_texts_of_runs
set_option Elab.async false
set_option linter.all false
set_option maxRecDepth 100000
set_option maxHeartbeats 4000000
namespace Vw
open PySem PySem.Spec PyProof.Rows L2
abbrev Clr (A : Around) : Prop := A.guards = some []
structure FnG (P : Program) (w : World) (K : PySem.W.Frag) (mg : Str → Option Value) (base : Heap) (CX : CXT) (k : Nat) (f : Addr) (fd : FuncData) (ps : List Str) (sp : Sp) : Prop where
  len : ∀ vs H Q E, sp vs H Q E → vs.length = ps.length
  run : ∀ (A : Around) (outer : List Env) (s : Shared) (H : Hp) (args : Args) (us : List Value) (vs : List V) (Q : VK) (E : XK),
    Room k A → Clr A → Env0 P w K mg base A outer s H → BindsTo s fd args (ps.zip us) → Vals vs us → sp vs H Q E →
    codeAny (model P w) A (.call (.ref f) args) (CR CX outer P w H s Q E) s
/-- what comes back of a body is what the call gives -/
theorem back {P : Program} {w : World} {CX : CXT} {outer : List Env} {X : Cx} {s s' : Shared} {H : Hp} {Q : VK} {E : XK} {fl : Flow}
    (eo : X.outer = outer) (es : X.s_0 = s) (eh : X.H_0 = H) (ee : X.ex = []) (ep : X.prog = P) (ew : X.w = w)
    (h : SP X [] { nx := fun _ H' => Q .non H', rt := Q } fl s') : CR CX outer P w H s Q E (.ok (match fl with | .ret u => .ret u | _ => .ret .none)) s' := by
  subst eo es eh ep ew
  have go : ∀ {σ' : L2.St} {H' : Hp} {v : V} {u : Value}, Inv X [] σ' H' s' → RelV v u → Q v H' →
      CE X.outer X.prog X.w X.H_0 X.s_0 Q u s' := by
    intro σ' H' v u J rv q
    refine ⟨v, H', J.os, J.bare, ?_, J.hok, rv, q⟩
    have b := J.base
    rw [ee] at b
    exact b
  cases fl with
  | ret u => obtain ⟨v, σ', H', J, rv, q⟩ := h; exact go J rv q
  | next => obtain ⟨σ', H', J, q⟩ := h; exact go (v := .non) (u := .none) J rfl q
  | brk => obtain ⟨_, _, _, q⟩ := h; exact q.elim
  | cont => obtain ⟨_, _, _, q⟩ := h; exact q.elim
theorem fnG_of {CX : CXT} {P : Program} {w : World} {K : PySem.W.Frag} {mg : Str → Option Value} {base : Heap} {k : Nat} {f : Addr} {x qual : Str} {st : Stmt} {fd : FuncData}
    {N ps : List Str} {sp : Sp} (F : Fun K x qual st f fd) (S : FnScope N ps (defScope st))
    (len : ∀ vs H Q E, sp vs H Q E → vs.length = ps.length)
    (body : ∀ (cdv : Value) (A : Around) (outer : List Env) (s : Shared) (H : Hp) (vs : List V) (Q : VK) (E : XK),
      fd.code = cdv → PySem.W.codeIn K cdv qual = true → Clr A →
      Room k (A.deeper (envOfC qual (defScope st) s.heap.objs.size f cdv)) → sp vs H Q E →
      ∃ t, PSs (cxOf CX P w K mg base N qual (defScope st) f cdv A outer s H E) (defBody st) t ∧
        t { nx := fun _ H' => Q .non H', rt := Q } (L2.start N vs) H) :
    FnG P w K mg base CX (k + 1) f fd ps sp := by
  obtain ⟨oc, od, kV, doc, pm, an, cdv, ct, osl, rfl, lk, hcd⟩ := F.ex
  constructor
  · exact len
  intro A outer s H args us vs Q E hr hc e0 hb r hsp
  have hl := len _ _ _ _ hsp
  have old : ∀ b o, base.get? b = some o → s.heap.get? b = some o := fun b o e => (e0.bs b o e).1
  have KX : K.In s.heap := e0.mod.kin.keeps old
  have lim : s.heap.NoLimit := e0.mod.nolimit.keeps old
  refine codeAny_call_function hr.depth (KX _ _ lk) rfl S.co S.gen rfl (PySem.W.codeRec_of KX hcd) (hb _ _ _ _ ?_)
  refine wpAny_newFunctionEnv_cells S.kind ?_ ?_
  · rintro ⟨n, v⟩ hy
    rcases S.par n (List.of_mem_zip hy).1 with q | q
    · left; exact q
    · right; exact ⟨q, PySem.W.cellsFrom_some _ _ _ (.inl q)⟩
  rintro env rfl s1 x
  refine ⟨lim.keeps x.toInCall.keep, codeAny_func ?_⟩
  obtain ⟨t, ht, hq⟩ := body cdv A outer s H vs Q E rfl hcd hc (hr.deeper _) hsp
  have I := inv_start (CX := CX) (E := E) S hr.hd e0 hl r x
  refine wpAny_mono (ht.run [] s1 (L2.start N vs) H _ I hq) ?_ (fun e s' hs => hs)
  intro fl s' hs
  have q := back (CX := CX) (E := E) (outer := outer) (s := s) (H := H) (P := P) (w := w) rfl rfl rfl rfl rfl rfl hs
  cases fl with
  | ret u => exact q
  | next => exact q
  | brk => obtain ⟨_, _, _, z⟩ := hs; exact z.elim
  | cont => obtain ⟨_, _, _, z⟩ := hs; exact z.elim
end Vw
set_option maxRecDepth 100000
set_option maxHeartbeats 4000000
namespace Vw
open PySem PySem.Spec L2
/-- a value as data: tuples and unchanged lists and dicts by what they hold, changed ones by the number of their cell -/
inductive D where
  | non | bl (b : Bool) | int (i : Int) | str (x : Str) | tup (xs : List D) | lst (xs : List D) | dic (ks : List Key) (vs : List D) | loc (n : Nat) | scr (xs : List D)
inductive Cell where
  | lst (xs : List D) | dic (ks : List Key) (vs : List D)
abbrev Sto := List Cell
abbrev Gam := List (Option D)
mutual
inductive Rep (K : PySem.W.Frag × List Addr) (H : Hp) (m : List Addr) : V → D → Prop
  | non : Rep K H m .non .non
  | bl (b : Bool) : Rep K H m (.bl b) (.bl b)
  | int (i : Int) : Rep K H m (.int i) (.int i)
  | str (x : Str) : Rep K H m (.str x) (.str x)
  | tup {a : Addr} {xs : List V} {ds : List D} : SqT K.1 H a xs → Reps K H m xs ds → Rep K H m (.ref a) (.tup ds)
  | lst {a : Addr} {xs : List V} {ds : List D} : H a = some (.lst xs) → a ∉ m → a ∉ K.2 → Reps K H m xs ds → Rep K H m (.ref a) (.lst ds)
  | dic {a : Addr} {kvs : List (Key × V)} {ks : List Key} {ds : List D} : Rd H a (.dK kvs) → a ∉ m → a ∉ K.2 → kvs.map (·.1) = ks → Reps K H m (kvs.map (·.2)) ds → Rep K H m (.ref a) (.dic ks ds)
  | loc {n : Nat} {a : Addr} : m[n]? = some a → Rep K H m (.ref a) (.loc n)
  | scr {a : Addr} {xs : List V} {ds : List D} : Rd H a (.lst xs) → a ∉ m → a ∉ K.2 → Reps K H m xs ds → Rep K H m (.ref a) (.scr ds)
  | scrK {a : Addr} {xs : List V} {ds : List D} : SqL K.1 (fun _ => none) a xs → Reps K H m xs ds → Rep K H m (.ref a) (.scr ds)
inductive Reps (K : PySem.W.Frag × List Addr) (H : Hp) (m : List Addr) : List V → List D → Prop
  | nil : Reps K H m [] []
  | cons {v : V} {vs : List V} {d : D} {ds : List D} : Rep K H m v d → Reps K H m vs ds → Reps K H m (v :: vs) (d :: ds)
end
section
variable {K : PySem.W.Frag × List Addr} {H H' : Hp} {m m' : List Addr}
theorem Reps.len : ∀ {vs : List V} {ds : List D}, Reps K H m vs ds → vs.length = ds.length
  | _, _, .nil => rfl
  | _, _, .cons _ t => congrArg (· + 1) t.len
theorem Reps.get : ∀ {vs : List V} {ds : List D} {i : Nat} {d : D}, Reps K H m vs ds → ds[i]? = some d → ∃ v, vs[i]? = some v ∧ Rep K H m v d
  | _, _, _, _, .nil, e => by simp at e
  | _, _, 0, _, .cons r _, e => by cases e; exact ⟨_, rfl, r⟩
  | _, _, i + 1, d, .cons _ t, e => t.get (i := i) (by simpa using e)
theorem Reps.app : ∀ {vs us : List V} {ds es : List D}, Reps K H m vs ds → Reps K H m us es → Reps K H m (vs ++ us) (ds ++ es)
  | _, _, _, _, .nil, s => s
  | _, _, _, _, .cons r t, s => .cons r (t.app s)
theorem Reps.take : ∀ {vs : List V} {ds : List D} (n : Nat), Reps K H m vs ds → Reps K H m (vs.take n) (ds.take n)
  | _, _, 0, _ => .nil
  | _, _, _ + 1, .nil => .nil
  | _, _, n + 1, .cons r t => .cons r (t.take n)
theorem Reps.drop : ∀ {vs : List V} {ds : List D} (n : Nat), Reps K H m vs ds → Reps K H m (vs.drop n) (ds.drop n)
  | _, _, 0, r => r
  | _, _, _ + 1, .nil => .nil
  | _, _, n + 1, .cons _ t => t.drop n
theorem Reps.set : ∀ {vs : List V} {ds : List D} {v : V} {d : D} (n : Nat), Reps K H m vs ds → Rep K H m v d → Reps K H m (vs.set n v) (ds.set n d)
  | _, _, _, _, _, .nil, _ => .nil
  | _, _, _, _, 0, .cons _ t, q => .cons q t
  | _, _, _, _, n + 1, .cons r t, q => .cons r (t.set n q)
theorem Reps.one {v : V} {d : D} (r : Rep K H m v d) : Reps K H m [v] [d] := .cons r .nil
end
/-- a tuple that was made is known to have no dict of its own -/
def TupOk : HO → Prop
  | .tup _ => False
  | .frz o (.tup _) => o.dict = none
  | _ => True
structure TupsOk (K : PySem.W.Frag) (H : Hp) : Prop where
  hp : ∀ a u, H a = some u → TupOk u
  kt : ∀ a o, K.lookup a = some o → o.cls = .type "tuple" → o.dict = none
theorem TupsOk.upd {K : PySem.W.Frag} {H : Hp} {p : Addr} {o : HO} (t : TupsOk K H) (h : TupOk o) : TupsOk K (L2.upd H p o) := ⟨fun a u e => by
  by_cases z : a = p
  · subst z; rw [upd_same] at e; cases e; exact h
  · rw [upd_ne z] at e; exact t.hp a u e, t.kt⟩
/-- the cells lie at the addresses m; nothing of the code's tables (at T) is among them -/
structure Ok (K : PySem.W.Frag × List Addr) (T : List Addr) (H : Hp) (m : List Addr) (S : Sto) : Prop where
  nd : m.Nodup
  len : m.length = S.length
  lst : ∀ (n : Nat) (a : Addr) (ds : List D), m[n]? = some a → S[n]? = some (Cell.lst ds) → ∃ xs, H a = some (.lst xs) ∧ Reps K H m xs ds
  dic : ∀ (n : Nat) (a : Addr) (ks : List Key) (ds : List D), m[n]? = some a → S[n]? = some (Cell.dic ks ds) → ∃ kvs, H a = some (.dK kvs) ∧ kvs.map (·.1) = ks ∧ Reps K H m (kvs.map (·.2)) ds
  tab : ∀ P ∈ T, GxR.TabG H P
  hid : ∀ a ∈ K.2, a ∉ m ∧ H a ≠ none
  tp : TupsOk K.1 H
/-- later: what is no cell and no table is as it was; new cells are new -/
structure Ext (T : List Addr) (H : Hp) (m : List Addr) (H' : Hp) (m' : List Addr) : Prop where
  pre : ∃ more, m' = m ++ more
  old : ∀ a o, H a = some o → a ∉ m → a ∉ T → H' a = some o
  new : ∀ a, a ∈ m' → a ∉ m → a ∉ T → H a = none
section
variable {K : PySem.W.Frag × List Addr} {T : List Addr} {H H1 H2 : Hp} {m m1 m2 : List Addr} {S S1 : Sto}
theorem Ok.cell (ok : Ok K T H m S) {a : Addr} (h : a ∈ m) : (∃ xs, H a = some (.lst xs)) ∨ ∃ kvs, H a = some (.dK kvs) := by
  obtain ⟨n, hn, e⟩ := List.mem_iff_getElem.mp h
  have e1 : m[n]? = some a := by rw [List.getElem?_eq_getElem hn, e]
  have hs : n < S.length := by rw [← ok.len]; exact hn
  cases q : S[n] with
  | lst ds =>
    obtain ⟨xs, hx, _⟩ := ok.lst n a ds e1 (by rw [List.getElem?_eq_getElem hs, q])
    exact .inl ⟨xs, hx⟩
  | dic ks ds =>
    obtain ⟨kvs, hx, _⟩ := ok.dic n a ks ds e1 (by rw [List.getElem?_eq_getElem hs, q])
    exact .inr ⟨kvs, hx⟩
theorem Ok.noTab (ok : Ok K T H m S) {a : Addr} (h : a ∈ m) : a ∉ T := fun z => by
  obtain ⟨ps, e, _⟩ := ok.tab a z
  rcases ok.cell h with ⟨xs, q⟩ | ⟨xs, q⟩ <;> · rw [e] at q; cases q
theorem Ok.free (ok : Ok K T H m S) {a : Addr} (h : H a = none) : a ∉ m ∧ a ∉ T ∧ a ∉ K.2 := by
  refine ⟨?_, ?_, fun z => (ok.hid a z).2 h⟩
  · intro z
    rcases ok.cell z with ⟨xs, q⟩ | ⟨xs, q⟩ <;> · rw [h] at q; cases q
  · intro z
    obtain ⟨ps, e, _⟩ := ok.tab a z
    rw [h] at e; cases e
theorem Ext.refl : Ext T H m H m := ⟨⟨[], by simp⟩, fun _ _ h _ _ => h, fun _ h n _ => absurd h n⟩
theorem Ext.at (x : Ext T H m H1 m1) {n : Nat} {a : Addr} (h : m[n]? = some a) : m1[n]? = some a := by
  obtain ⟨r, e⟩ := x.pre
  have hn := (List.getElem?_eq_some_iff.mp h).1
  rw [e, List.getElem?_append_left hn]; exact h
theorem Ext.trans (x : Ext T H m H1 m1) (y : Ext T H1 m1 H2 m2) : Ext T H m H2 m2 where
  pre := by
    obtain ⟨r, e⟩ := x.pre
    obtain ⟨r', e'⟩ := y.pre
    exact ⟨r ++ r', by rw [e', e, List.append_assoc]⟩
  old := fun a o h n t => y.old a o (x.old a o h n t) (fun z => by rw [x.new a z n t] at h; cases h) t
  new := fun a h n t => by
    by_cases z : a ∈ m1
    · exact x.new a z n t
    · cases q : H a with
      | none => rfl
      | some o =>
        have e := y.new a h z t
        rw [x.old a o q n t] at e; cases e
mutual
/-- all tracked things are as they were -/
theorem Rep.keep (k : ∀ a u, H a = some u → H1 a = some u) : ∀ {v : V} {d : D}, Rep K H m v d → Rep K H1 m v d
  | _, _, .non => .non
  | _, _, .bl b => .bl b
  | _, _, .int i => .int i
  | _, _, .str z => .str z
  | _, _, .tup h r => .tup (by
      rcases h with (h | ⟨o, h⟩) | h
      · exact .inl (.inl (k _ _ h))
      · exact .inl (.inr ⟨o, k _ _ h⟩)
      · exact .inr h) (Reps.keep k r)
  | _, _, .lst h n z r => .lst (k _ _ h) n z (Reps.keep k r)
  | _, _, .dic h n z e r => .dic (by
      rcases h with h | ⟨o, h⟩
      · exact .inl (k _ _ h)
      · exact .inr ⟨o, k _ _ h⟩) n z e (Reps.keep k r)
  | _, _, .loc h => .loc h
  | _, _, .scr h n z r => .scr (by
      rcases h with h | ⟨o, h⟩
      · exact .inl (k _ _ h)
      · exact .inr ⟨o, k _ _ h⟩) n z (Reps.keep k r)
  | _, _, .scrK h r => .scrK h (Reps.keep k r)
theorem Reps.keep (k : ∀ a u, H a = some u → H1 a = some u) : ∀ {vs : List V} {ds : List D}, Reps K H m vs ds → Reps K H1 m vs ds
  | _, _, .nil => .nil
  | _, _, .cons r t => .cons (Rep.keep k r) (Reps.keep k t)
end
theorem Ext.rdT {K0 : PySem.W.Frag × List Addr} (x : Ext T H m H1 m1) (ok : Ok K0 T H m S) {a : Addr} {xs : List V} (h : SqT K.1 H a xs) : SqT K.1 H1 a xs := by
  rcases h with (h | ⟨o, h⟩) | h
  · refine .inl (.inl (x.old _ _ h (fun z => ?_) fun z => ?_))
    · rcases ok.cell z with ⟨ys, q⟩ | ⟨ys, q⟩ <;> · rw [h] at q; cases q
    · obtain ⟨ps, q, _⟩ := ok.tab a z
      rw [h] at q; cases q
  · refine .inl (.inr ⟨o, x.old _ _ h (fun z => ?_) fun z => ?_⟩)
    · rcases ok.cell z with ⟨ys, q⟩ | ⟨ys, q⟩ <;> · rw [h] at q; cases q
    · obtain ⟨ps, q, _⟩ := ok.tab a z
      rw [h] at q; cases q
  · exact .inr h
theorem Ext.rd {K0 : PySem.W.Frag × List Addr} (x : Ext T H m H1 m1) (ok : Ok K0 T H m S) {a : Addr} {u : HO} (hu : ∀ ps, u ≠ .tbl ps) (h : Rd H a u) (n : a ∉ m) : Rd H1 a u ∧ a ∉ m1 := by
  have nt : a ∉ T := fun z => by
    obtain ⟨ps, q, _⟩ := ok.tab a z
    rcases h with h | ⟨o, h⟩
    · rw [h] at q; exact hu ps (Option.some.inj q)
    · rw [h] at q; cases q
  refine ⟨?_, fun z => ?_⟩
  · rcases h with h | ⟨o, h⟩
    · exact .inl (x.old _ _ h n nt)
    · exact .inr ⟨o, x.old _ _ h n nt⟩
  · have e := x.new a z n nt
    rcases h with h | ⟨o, h⟩ <;> · rw [h] at e; cases e
theorem Ext.lst {K0 : PySem.W.Frag × List Addr} (x : Ext T H m H1 m1) (ok : Ok K0 T H m S) {a : Addr} {xs : List V} (h : H a = some (.lst xs)) (n : a ∉ m) : H1 a = some (.lst xs) ∧ a ∉ m1 := by
  have nt : a ∉ T := fun z => by
    obtain ⟨ps, q, _⟩ := ok.tab a z
    rw [h] at q; cases q
  refine ⟨x.old _ _ h n nt, fun z => ?_⟩
  have e := x.new a z n nt
  rw [h] at e; cases e
mutual
theorem Rep.mono {K0 : PySem.W.Frag × List Addr} (x : Ext T H m H1 m1) (ok : Ok K0 T H m S) : ∀ {v : V} {d : D}, Rep K H m v d → Rep K H1 m1 v d
  | _, _, .non => .non
  | _, _, .bl b => .bl b
  | _, _, .int i => .int i
  | _, _, .str z => .str z
  | _, _, .tup h r => .tup (x.rdT ok h) (Reps.mono x ok r)
  | _, _, .lst h n z r => .lst (x.lst ok h n).1 (x.lst ok h n).2 z (Reps.mono x ok r)
  | _, _, .dic h n z e r => .dic (x.rd ok (by intro ps z; cases z) h n).1 (x.rd ok (by intro ps z; cases z) h n).2 z e (Reps.mono x ok r)
  | _, _, .loc h => .loc (x.at h)
  | _, _, .scr h n z r => .scr (x.rd ok (by intro ps z; cases z) h n).1 (x.rd ok (by intro ps z; cases z) h n).2 z (Reps.mono x ok r)
  | _, _, .scrK h r => .scrK h (Reps.mono x ok r)
theorem Reps.mono {K0 : PySem.W.Frag × List Addr} (x : Ext T H m H1 m1) (ok : Ok K0 T H m S) : ∀ {vs : List V} {ds : List D}, Reps K H m vs ds → Reps K H1 m1 vs ds
  | _, _, .nil => .nil
  | _, _, .cons r t => .cons (Rep.mono x ok r) (Reps.mono x ok t)
end
/-- later, where lists that nobody knows (among Z) may have changed -/
def ExtH (Z T : List Addr) (H : Hp) (m : List Addr) (H' : Hp) (m' : List Addr) : Prop := ∃ B : List Addr, (∀ a ∈ B, a ∈ Z ∧ ∃ xs, H a = some (.lst xs)) ∧ Ext (B ++ T) H m H' m'
theorem Ext.h {Z : List Addr} (x : Ext T H m H1 m1) : ExtH Z T H m H1 m1 := ⟨[], fun a ha => (by cases ha), x⟩
theorem ExtH.at {Z : List Addr} (x : ExtH Z T H m H1 m1) {n : Nat} {a : Addr} (h : m[n]? = some a) : m1[n]? = some a := by
  obtain ⟨B, _, x⟩ := x
  exact x.at h
theorem ExtH.keep {Z : List Addr} {K0 : PySem.W.Frag × List Addr} (x : ExtH Z T H m H1 m1) (ok : Ok K0 T H m S) {a : Addr} {u : HO} (h : H a = some u) (n : a ∉ m) (hu : ∀ ps, u ≠ .tbl ps) (hl : (∀ xs, u ≠ .lst xs) ∨ a ∉ Z) : H1 a = some u := by
  obtain ⟨B, hB, x⟩ := x
  refine x.old _ _ h n fun z => ?_
  rcases List.mem_append.mp z with z | z
  · obtain ⟨h1, xs, h2⟩ := hB a z
    rcases hl with hl | hl
    · rw [h] at h2; exact hl xs (Option.some.inj h2)
    · exact hl h1
  · obtain ⟨ps, q, _⟩ := ok.tab a z
    rw [h] at q; exact hu ps (Option.some.inj q)
theorem ExtH.no {Z : List Addr} {K0 : PySem.W.Frag × List Addr} (x : ExtH Z T H m H1 m1) (ok : Ok K0 T H m S) {a : Addr} {u : HO} (h : H a = some u) (n : a ∉ m) (hu : ∀ ps, u ≠ .tbl ps) (hl : (∀ xs, u ≠ .lst xs) ∨ a ∉ Z) : a ∉ m1 := fun z => by
  obtain ⟨B, hB, x⟩ := x
  have e := x.new a z n fun z => by
    rcases List.mem_append.mp z with z | z
    · obtain ⟨h1, xs, h2⟩ := hB a z
      rcases hl with hl | hl
      · rw [h] at h2; exact hl xs (Option.some.inj h2)
      · exact hl h1
    · obtain ⟨ps, q, _⟩ := ok.tab a z
      rw [h] at q; exact hu ps (Option.some.inj q)
  rw [h] at e; cases e
theorem ExtH.rdT {Z : List Addr} {K0 : PySem.W.Frag × List Addr} (x : ExtH Z T H m H1 m1) (ok : Ok K0 T H m S) {a : Addr} {xs : List V} (h : SqT K.1 H a xs) : SqT K.1 H1 a xs := by
  have nm : ∀ {u : HO}, H a = some u → (∀ ys, u ≠ .lst ys) → (∀ kvs, u ≠ .dK kvs) → a ∉ m := fun h h1 h2 z => by
    rcases ok.cell z with ⟨ys, q⟩ | ⟨ys, q⟩
    · rw [h] at q; exact h1 ys (Option.some.inj q)
    · rw [h] at q; exact h2 ys (Option.some.inj q)
  rcases h with (h | ⟨o, h⟩) | h
  · exact .inl (.inl (x.keep ok h (nm h (fun _ z => by cases z) fun _ z => by cases z) (fun _ z => by cases z) (.inl fun _ z => by cases z)))
  · exact .inl (.inr ⟨o, x.keep ok h (nm h (fun _ z => by cases z) fun _ z => by cases z) (fun _ z => by cases z) (.inl fun _ z => by cases z)⟩)
  · exact .inr h
theorem ExtH.rd {Z : List Addr} {K0 : PySem.W.Frag × List Addr} (x : ExtH Z T H m H1 m1) (ok : Ok K0 T H m S) {a : Addr} {u : HO} (hu : ∀ ps, u ≠ .tbl ps) (h : Rd H a u) (n : a ∉ m) (hl : (∀ xs, u ≠ .lst xs) ∨ a ∉ Z) : Rd H1 a u ∧ a ∉ m1 := by
  rcases h with h | ⟨o, h⟩
  · exact ⟨.inl (x.keep ok h n hu hl), x.no ok h n hu hl⟩
  · exact ⟨.inr ⟨o, x.keep ok h n (fun _ z => by cases z) (.inl fun _ z => by cases z)⟩, x.no ok h n (fun _ z => by cases z) (.inl fun _ z => by cases z)⟩
theorem ExtH.lst {Z : List Addr} {K0 : PySem.W.Frag × List Addr} (x : ExtH Z T H m H1 m1) (ok : Ok K0 T H m S) {a : Addr} {xs : List V} (h : H a = some (.lst xs)) (n : a ∉ m) (z : a ∉ Z) : H1 a = some (.lst xs) ∧ a ∉ m1 :=
  ⟨x.keep ok h n (fun _ z => by cases z) (.inr z), x.no ok h n (fun _ z => by cases z) (.inr z)⟩
mutual
theorem Rep.monoH {Z : List Addr} {K0 : PySem.W.Frag × List Addr} (hz : ∀ a ∈ Z, a ∈ K.2) (x : ExtH Z T H m H1 m1) (ok : Ok K0 T H m S) : ∀ {v : V} {d : D}, Rep K H m v d → Rep K H1 m1 v d
  | _, _, .non => .non
  | _, _, .bl b => .bl b
  | _, _, .int i => .int i
  | _, _, .str z => .str z
  | _, _, .tup h r => .tup (x.rdT ok h) (Reps.monoH hz x ok r)
  | _, _, .lst h n z r => .lst (x.lst ok h n fun w => z (hz _ w)).1 (x.lst ok h n fun w => z (hz _ w)).2 z (Reps.monoH hz x ok r)
  | _, _, .dic h n z e r => .dic (x.rd ok (by intro ps z; cases z) h n (.inr fun w => z (hz _ w))).1 (x.rd ok (by intro ps z; cases z) h n (.inr fun w => z (hz _ w))).2 z e (Reps.monoH hz x ok r)
  | _, _, .loc h => .loc (x.at h)
  | _, _, .scr h n z r => .scr (x.rd ok (by intro ps z; cases z) h n (.inr fun w => z (hz _ w))).1 (x.rd ok (by intro ps z; cases z) h n (.inr fun w => z (hz _ w))).2 z (Reps.monoH hz x ok r)
  | _, _, .scrK h r => .scrK h (Reps.monoH hz x ok r)
theorem Reps.monoH {Z : List Addr} {K0 : PySem.W.Frag × List Addr} (hz : ∀ a ∈ Z, a ∈ K.2) (x : ExtH Z T H m H1 m1) (ok : Ok K0 T H m S) : ∀ {vs : List V} {ds : List D}, Reps K H m vs ds → Reps K H1 m1 vs ds
  | _, _, .nil => .nil
  | _, _, .cons r t => .cons (Rep.monoH hz x ok r) (Reps.monoH hz x ok t)
end
/-- a new object that is no cell -/
theorem Ext.laid (ok : Ok K T H m S) {p : Addr} {o : HO} (h : H p = none) : Ext T H m (upd H p o) m :=
  ⟨⟨[], by simp⟩, fun a u e _ _ => by rw [upd_ne (ne_of_none e h)]; exact e, fun _ z n _ => absurd z n⟩
theorem Ok.laid (ok : Ok K T H m S) {p : Addr} {o : HO} (h : H p = none) (ho : TupOk o := by first | exact trivial | assumption | rfl) : Ok K T (upd H p o) m S where
  tp := ok.tp.upd ho
  nd := ok.nd
  len := ok.len
  lst := fun n a ds e1 e2 => by
    obtain ⟨xs, q, r⟩ := ok.lst n a ds e1 e2
    exact ⟨xs, by rw [upd_ne (ne_of_none q h)]; exact q, r.mono (Ext.laid ok h) ok⟩
  dic := fun n a ks ds e1 e2 => by
    obtain ⟨xs, q, e, r⟩ := ok.dic n a ks ds e1 e2
    exact ⟨xs, by rw [upd_ne (ne_of_none q h)]; exact q, e, r.mono (Ext.laid ok h) ok⟩
  tab := fun P hP => by
    obtain ⟨ps, q, r⟩ := ok.tab P hP
    exact ⟨ps, by rw [upd_ne (ne_of_none q h)]; exact q, r⟩
  hid := fun a ha => ⟨(ok.hid a ha).1, by rw [upd_ne (fun (z : a = p) => (ok.hid a ha).2 (by rw [z]; exact h))]; exact (ok.hid a ha).2⟩
/-- a new cell: a list -/
theorem Ext.cell (ok : Ok K T H m S) {p : Addr} {o : HO} (h : H p = none) : Ext T H m (upd H p o) (m ++ [p]) :=
  ⟨⟨[p], rfl⟩, fun a u e _ _ => by rw [upd_ne (ne_of_none e h)]; exact e, fun a z n _ => by
    rcases List.mem_append.mp z with z | z
    · exact absurd z n
    · rw [List.mem_singleton.mp z]; exact h⟩
theorem Ok.newLst (ok : Ok K T H m S) {p : Addr} {xs : List V} {ds : List D} (h : H p = none) (r : Reps K H m xs ds) : Ok K T (upd H p (.lst xs)) (m ++ [p]) (S ++ [Cell.lst ds]) := by
  have E := Ext.cell (o := .lst xs) ok h
  have hp := (ok.free h).1
  refine ⟨?_, by simp [ok.len], fun n a es e1 e2 => ?_, fun n a ks es e1 e2 => ?_, fun P hP => ?_, fun a ha => ⟨fun z => ?_, ?_⟩, ok.tp.upd trivial⟩
  · rw [List.nodup_append]
    exact ⟨ok.nd, by simp, fun a ha b hb => by rw [List.mem_singleton.mp hb]; intro z; exact hp (z ▸ ha)⟩
  · by_cases hn : n < m.length
    · rw [List.getElem?_append_left hn] at e1
      rw [List.getElem?_append_left (by rw [← ok.len]; exact hn)] at e2
      obtain ⟨ys, q, s⟩ := ok.lst n a es e1 e2
      exact ⟨ys, by rw [upd_ne (ne_of_none q h)]; exact q, s.mono E ok⟩
    · have hn1 := (List.getElem?_eq_some_iff.mp e1).1
      have hn' : n = m.length := by simp at hn1; omega
      subst hn'
      rw [List.getElem?_append_right (Nat.le_refl _)] at e1
      rw [List.getElem?_append_right (by rw [ok.len]; exact Nat.le_refl _), ok.len] at e2
      simp at e1 e2
      subst e1
      cases e2
      exact ⟨xs, upd_same, r.mono E ok⟩
  · have hn : n < m.length := by
      have hn1 := (List.getElem?_eq_some_iff.mp e1).1
      rw [List.length_append] at hn1
      by_cases hh : n < m.length
      · exact hh
      · have : n = m.length := by simp at hn1; omega
        subst this
        rw [List.getElem?_append_right (by rw [ok.len]; exact Nat.le_refl _), ok.len] at e2
        simp at e2
    rw [List.getElem?_append_left hn] at e1
    rw [List.getElem?_append_left (by rw [← ok.len]; exact hn)] at e2
    obtain ⟨ys, q, e, s⟩ := ok.dic n a ks es e1 e2
    exact ⟨ys, by rw [upd_ne (ne_of_none q h)]; exact q, e, s.mono E ok⟩
  · obtain ⟨ps, q, t⟩ := ok.tab P hP
    exact ⟨ps, by rw [upd_ne (ne_of_none q h)]; exact q, t⟩
  · rcases List.mem_append.mp z with z | z
    · exact (ok.hid a ha).1 z
    · rw [List.mem_singleton.mp z] at ha; exact (ok.free h).2.2 ha
  · rw [upd_ne (fun (z : a = p) => (ok.hid a ha).2 (by rw [z]; exact h))]; exact (ok.hid a ha).2
/-- a cell is written: a list -/
theorem Ext.put (ok : Ok K T H m S) {n : Nat} {a : Addr} {o : HO} (h : m[n]? = some a) : Ext T H m (upd H a o) m :=
  ⟨⟨[], by simp⟩, fun b u e nb _ => by rw [upd_ne (fun (z : b = a) => nb (by rw [z]; exact List.mem_of_getElem? h))]; exact e, fun _ z nn _ => absurd z nn⟩
theorem idx_inj {α : Type} {l : List α} (nd : l.Nodup) {i j : Nat} {x : α} (a : l[i]? = some x) (b : l[j]? = some x) : i = j := by
  obtain ⟨h1, e1⟩ := List.getElem?_eq_some_iff.mp a
  obtain ⟨h2, e2⟩ := List.getElem?_eq_some_iff.mp b
  exact (List.getElem_inj nd).mp (e1.trans e2.symm)
theorem Ok.putLst (ok : Ok K T H m S) {n : Nat} {a : Addr} {xs : List V} {ds : List D} (h : m[n]? = some a) (r : Reps K H m xs ds) : Ok K T (upd H a (.lst xs)) m (S.set n (Cell.lst ds)) := by
  have E := Ext.put (o := .lst xs) ok h
  have hn : n < S.length := by rw [← ok.len]; exact (List.getElem?_eq_some_iff.mp h).1
  refine ⟨ok.nd, by simp [ok.len], fun j b es e1 e2 => ?_, fun j b ks es e1 e2 => ?_, fun P hP => ?_, fun b hb => ⟨(ok.hid b hb).1, by rw [upd_ne (fun (z : b = a) => (ok.hid b hb).1 (by rw [z]; exact List.mem_of_getElem? h))]; exact (ok.hid b hb).2⟩, ok.tp.upd trivial⟩
  · by_cases hj : j = n
    · subst hj
      rw [h] at e1; cases e1
      rw [List.getElem?_set_self hn] at e2; cases e2
      exact ⟨xs, upd_same, r.mono E ok⟩
    · rw [List.getElem?_set_ne (Ne.symm hj)] at e2
      obtain ⟨ys, q, s⟩ := ok.lst j b es e1 e2
      have ne : b ≠ a := fun z => hj (idx_inj ok.nd e1 (z ▸ h))
      exact ⟨ys, by rw [upd_ne ne]; exact q, s.mono E ok⟩
  · by_cases hj : j = n
    · subst hj
      rw [List.getElem?_set_self hn] at e2; cases e2
    · rw [List.getElem?_set_ne (Ne.symm hj)] at e2
      obtain ⟨ys, q, e, s⟩ := ok.dic j b ks es e1 e2
      have ne : b ≠ a := fun z => hj (idx_inj ok.nd e1 (z ▸ h))
      exact ⟨ys, by rw [upd_ne ne]; exact q, e, s.mono E ok⟩
  · obtain ⟨ps, q, t⟩ := ok.tab P hP
    have ne : P ≠ a := fun z => ok.noTab (List.mem_of_getElem? h) (z ▸ hP)
    exact ⟨ps, by rw [upd_ne ne]; exact q, t⟩
theorem Ok.putDic (ok : Ok K T H m S) {n : Nat} {a : Addr} {kvs : List (Key × V)} {ks : List Key} {ds : List D} (h : m[n]? = some a) (ek : kvs.map (·.1) = ks) (r : Reps K H m (kvs.map (·.2)) ds) : Ok K T (upd H a (.dK kvs)) m (S.set n (Cell.dic ks ds)) := by
  have E := Ext.put (o := .dK kvs) ok h
  have hn : n < S.length := by rw [← ok.len]; exact (List.getElem?_eq_some_iff.mp h).1
  refine ⟨ok.nd, by simp [ok.len], fun j b es e1 e2 => ?_, fun j b qs es e1 e2 => ?_, fun P hP => ?_, fun b hb => ⟨(ok.hid b hb).1, by rw [upd_ne (fun (z : b = a) => (ok.hid b hb).1 (by rw [z]; exact List.mem_of_getElem? h))]; exact (ok.hid b hb).2⟩, ok.tp.upd trivial⟩
  · by_cases hj : j = n
    · subst hj
      rw [List.getElem?_set_self hn] at e2; cases e2
    · rw [List.getElem?_set_ne (Ne.symm hj)] at e2
      obtain ⟨ys, q, s⟩ := ok.lst j b es e1 e2
      have ne : b ≠ a := fun z => hj (idx_inj ok.nd e1 (z ▸ h))
      exact ⟨ys, by rw [upd_ne ne]; exact q, s.mono E ok⟩
  · by_cases hj : j = n
    · subst hj
      rw [h] at e1; cases e1
      rw [List.getElem?_set_self hn] at e2; cases e2
      exact ⟨kvs, upd_same, ek, r.mono E ok⟩
    · rw [List.getElem?_set_ne (Ne.symm hj)] at e2
      obtain ⟨ys, q, e, s⟩ := ok.dic j b qs es e1 e2
      have ne : b ≠ a := fun z => hj (idx_inj ok.nd e1 (z ▸ h))
      exact ⟨ys, by rw [upd_ne ne]; exact q, e, s.mono E ok⟩
  · obtain ⟨ps, q, t⟩ := ok.tab P hP
    have ne : P ≠ a := fun z => ok.noTab (List.mem_of_getElem? h) (z ▸ hP)
    exact ⟨ps, by rw [upd_ne ne]; exact q, t⟩
end
mutual
theorem Rep.hide {K : PySem.W.Frag} {Z E : List Addr} {H : Hp} {m : List Addr} (he : ∀ a ∈ E, H a = none) : ∀ {v : V} {d : D}, Rep (K, Z) H m v d → Rep (K, E ++ Z) H m v d
  | _, _, .non => .non
  | _, _, .bl b => .bl b
  | _, _, .int i => .int i
  | _, _, .str z => .str z
  | _, _, .tup h r => .tup h (Reps.hide he r)
  | _, _, .lst h n z r => .lst h n (fun q => (List.mem_append.mp q).elim (fun q => by rw [he _ q] at h; cases h) z) (Reps.hide he r)
  | _, _, .dic h n z e r => .dic h n (fun q => (List.mem_append.mp q).elim (fun q => by
      rcases h with h | ⟨o, h⟩ <;> · rw [he _ q] at h; cases h) z) e (Reps.hide he r)
  | _, _, .loc h => .loc h
  | _, _, .scr h n z r => .scr h n (fun q => (List.mem_append.mp q).elim (fun q => by
      rcases h with h | ⟨o, h⟩ <;> · rw [he _ q] at h; cases h) z) (Reps.hide he r)
  | _, _, .scrK h r => .scrK h (Reps.hide he r)
theorem Reps.hide {K : PySem.W.Frag} {Z E : List Addr} {H : Hp} {m : List Addr} (he : ∀ a ∈ E, H a = none) : ∀ {vs : List V} {ds : List D}, Reps (K, Z) H m vs ds → Reps (K, E ++ Z) H m vs ds
  | _, _, .nil => .nil
  | _, _, .cons r t => .cons (Rep.hide he r) (Reps.hide he t)
end
mutual
theorem Rep.bare {K : PySem.W.Frag} {Z E : List Addr} {H : Hp} {m : List Addr} : ∀ {v : V} {d : D}, Rep (K, E ++ Z) H m v d → Rep (K, Z) H m v d
  | _, _, .non => .non
  | _, _, .bl b => .bl b
  | _, _, .int i => .int i
  | _, _, .str z => .str z
  | _, _, .tup h r => .tup h (Reps.bare r)
  | _, _, .lst h n z r => .lst h n (fun q => z (List.mem_append_right _ q)) (Reps.bare r)
  | _, _, .dic h n z e r => .dic h n (fun q => z (List.mem_append_right _ q)) e (Reps.bare r)
  | _, _, .loc h => .loc h
  | _, _, .scr h n z r => .scr h n (fun q => z (List.mem_append_right _ q)) (Reps.bare r)
  | _, _, .scrK h r => .scrK h (Reps.bare r)
theorem Reps.bare {K : PySem.W.Frag} {Z E : List Addr} {H : Hp} {m : List Addr} : ∀ {vs : List V} {ds : List D}, Reps (K, E ++ Z) H m vs ds → Reps (K, Z) H m vs ds
  | _, _, .nil => .nil
  | _, _, .cons r t => .cons (Rep.bare r) (Reps.bare t)
end
theorem Ok.bare {K : PySem.W.Frag} {Z E : List Addr} {T : List Addr} {H : Hp} {m : List Addr} {S : Sto} (ok : Ok (K, E ++ Z) T H m S) : Ok (K, Z) T H m S where
  nd := ok.nd
  len := ok.len
  lst := fun n a ds e1 e2 => let ⟨xs, q, r⟩ := ok.lst n a ds e1 e2; ⟨xs, q, r.bare⟩
  dic := fun n a ks ds e1 e2 => let ⟨xs, q, e, r⟩ := ok.dic n a ks ds e1 e2; ⟨xs, q, e, r.bare⟩
  tab := ok.tab
  hid := fun a ha => ok.hid a (List.mem_append_right _ ha)
  tp := ok.tp
/-- a new object is put aside: nobody knows it -/
theorem Ok.aside {K : PySem.W.Frag} {Z : List Addr} {T : List Addr} {H : Hp} {m : List Addr} {S : Sto} {p : Addr} {o : HO} (ok : Ok (K, Z) T H m S) (h : H p = none) (ho : TupOk o := by first | exact trivial | assumption | rfl) : Ok (K, [p] ++ Z) T (upd H p o) m S := by
  have o1 := ok.laid (o := o) h ho
  have x := Ext.laid (o := o) ok h
  have he : ∀ a ∈ [p], H a = none := fun a ha => by rw [List.mem_singleton.mp ha]; exact h
  have up : ∀ {vs : List V} {ds : List D}, Reps (K, Z) H m vs ds → Reps (K, [p] ++ Z) (upd H p o) m vs ds := fun {vs ds} r => by
    -- hidden before it was there, then kept
    have r1 := Reps.hide he r
    exact Reps.keep (fun a u e => by rw [upd_ne (ne_of_none e h)]; exact e) r1
  refine ⟨ok.nd, ok.len, fun n a ds e1 e2 => ?_, fun n a ks ds e1 e2 => ?_, o1.tab, fun a ha => ?_, o1.tp⟩
  · obtain ⟨xs, q, r⟩ := ok.lst n a ds e1 e2
    exact ⟨xs, by rw [upd_ne (ne_of_none q h)]; exact q, up r⟩
  · obtain ⟨xs, q, e, r⟩ := ok.dic n a ks ds e1 e2
    exact ⟨xs, by rw [upd_ne (ne_of_none q h)]; exact q, e, up r⟩
  · rcases List.mem_append.mp ha with z | z
    · rw [List.mem_singleton.mp z]
      exact ⟨(ok.free h).1, by rw [upd_same]; intro q; cases q⟩
    · exact o1.hid a z
/-- the names' values -/
structure EnvOk (K : PySem.W.Frag × List Addr) (H : Hp) (m : List Addr) (σ : L2.St) (G : Gam) : Prop where
  len : σ.length = G.length
  at_ : ∀ (i : Nat) (d : D), G[i]? = some (some d) → ∃ v, σ[i]? = some (some v) ∧ Rep K H m v d
section
variable {K : PySem.W.Frag × List Addr} {T : List Addr} {H H1 : Hp} {m m1 : List Addr} {S : Sto} {σ : L2.St} {G : Gam}
theorem EnvOk.mono (e : EnvOk K H m σ G) (x : Ext T H m H1 m1) (ok : Ok K T H m S) : EnvOk K H1 m1 σ G :=
  ⟨e.len, fun i d h => let ⟨v, a, r⟩ := e.at_ i d h; ⟨v, a, r.mono x ok⟩⟩
theorem EnvOk.set (e : EnvOk K H m σ G) {i : Nat} {v : V} {d : D} (r : Rep K H m v d) : EnvOk K H m (σ.set i (some v)) (G.set i (some d)) := by
  refine ⟨by simp [e.len], fun j c h => ?_⟩
  by_cases hj : i = j
  · subst hj
    by_cases hi : i < G.length
    · rw [List.getElem?_set_self hi] at h
      cases h
      exact ⟨v, by rw [List.getElem?_set_self (by rw [e.len]; exact hi)], r⟩
    · rw [List.getElem?_eq_none (by simpa using hi)] at h; cases h
  · rw [List.getElem?_set_ne hj] at h
    obtain ⟨w, a, q⟩ := e.at_ j c h
    exact ⟨w, by rw [List.getElem?_set_ne hj]; exact a, q⟩
end
theorem EnvOk.aside {K : PySem.W.Frag} {Z : List Addr} {H : Hp} {m : List Addr} {σ : L2.St} {G : Gam} {p : Addr} {o : HO} (e : EnvOk (K, Z) H m σ G) (h : H p = none) : EnvOk (K, [p] ++ Z) (upd H p o) m σ G :=
  ⟨e.len, fun i d q => let ⟨v, a, r⟩ := e.at_ i d q; ⟨v, a, Rep.keep (fun a u e => by rw [upd_ne (ne_of_none e h)]; exact e) (Rep.hide (fun a ha => by rw [List.mem_singleton.mp ha]; exact h) r)⟩⟩
theorem EnvOk.bare {K : PySem.W.Frag} {Z E : List Addr} {H : Hp} {m : List Addr} {σ : L2.St} {G : Gam} (e : EnvOk (K, E ++ Z) H m σ G) : EnvOk (K, Z) H m σ G :=
  ⟨e.len, fun i d q => let ⟨v, a, r⟩ := e.at_ i d q; ⟨v, a, r.bare⟩⟩
mutual
/-- what is put aside may change: nobody knows it -/
theorem Rep.grow {K : PySem.W.Frag} {Z : List Addr} {H : Hp} {m : List Addr} {p : Addr} {xs ys : List V} (h : H p = some (.lst xs)) : ∀ {v : V} {d : D}, Rep (K, [p] ++ Z) H m v d → Rep (K, [p] ++ Z) (upd H p (.lst ys)) m v d
  | _, _, .non => .non
  | _, _, .bl b => .bl b
  | _, _, .int i => .int i
  | _, _, .str z => .str z
  | _, _, .tup q r => .tup (by
      rcases q with (q | ⟨o, q⟩) | q
      · refine .inl (.inl ?_)
        rw [upd_ne (ne_of q h (by intro z; cases z))]; exact q
      · refine .inl (.inr ⟨o, ?_⟩)
        rw [upd_ne (ne_of q h (by intro z; cases z))]; exact q
      · exact .inr q) (Reps.grow h r)
  | _, _, .lst q n z r => .lst (by
      rw [upd_ne (fun e => z (List.mem_append_left _ (List.mem_singleton.mpr e)))]; exact q) n z (Reps.grow h r)
  | _, _, .dic q n z e r => .dic (by
      rcases q with q | ⟨o, q⟩
      · refine .inl ?_
        rw [upd_ne (ne_of q h (by intro z; cases z))]; exact q
      · refine .inr ⟨o, ?_⟩
        rw [upd_ne (ne_of q h (by intro z; cases z))]; exact q) n z e (Reps.grow h r)
  | _, _, .loc q => .loc q
  | _, _, .scr q n z r => .scr (by
      have ne := fun e => z (List.mem_append_left _ (List.mem_singleton.mpr e))
      rcases q with q | ⟨o, q⟩
      · exact .inl (by rw [upd_ne ne]; exact q)
      · exact .inr ⟨o, by rw [upd_ne ne]; exact q⟩) n z (Reps.grow h r)
  | _, _, .scrK q r => .scrK q (Reps.grow h r)
theorem Reps.grow {K : PySem.W.Frag} {Z : List Addr} {H : Hp} {m : List Addr} {p : Addr} {xs ys : List V} (h : H p = some (.lst xs)) : ∀ {vs : List V} {ds : List D}, Reps (K, [p] ++ Z) H m vs ds → Reps (K, [p] ++ Z) (upd H p (.lst ys)) m vs ds
  | _, _, .nil => .nil
  | _, _, .cons r t => .cons (Rep.grow h r) (Reps.grow h t)
end
theorem Ok.grow {K : PySem.W.Frag} {Z : List Addr} {T : List Addr} {H : Hp} {m : List Addr} {S : Sto} {p : Addr} {xs ys : List V} (ok : Ok (K, [p] ++ Z) T H m S) (np : p ∉ m) (h : H p = some (.lst xs)) : Ok (K, [p] ++ Z) T (upd H p (.lst ys)) m S where
  tp := ok.tp.upd trivial
  nd := ok.nd
  len := ok.len
  lst := fun n a ds e1 e2 => by
    obtain ⟨us, q, r⟩ := ok.lst n a ds e1 e2
    have ne : a ≠ p := fun z => np (by rw [← z]; exact List.mem_of_getElem? e1)
    exact ⟨us, by rw [upd_ne ne]; exact q, r.grow h⟩
  dic := fun n a ks ds e1 e2 => by
    obtain ⟨us, q, e, r⟩ := ok.dic n a ks ds e1 e2
    have ne : a ≠ p := fun z => np (by rw [← z]; exact List.mem_of_getElem? e1)
    exact ⟨us, by rw [upd_ne ne]; exact q, e, r.grow h⟩
  tab := fun P hP => by
    obtain ⟨ps, q, r⟩ := ok.tab P hP
    exact ⟨ps, by rw [upd_ne (ne_of q h (by intro z; cases z))]; exact q, r⟩
  hid := fun a ha => ⟨(ok.hid a ha).1, by
    by_cases e : a = p
    · rw [e, upd_same]; intro z; cases z
    · rw [upd_ne e]; exact (ok.hid a ha).2⟩
theorem EnvOk.grow {K : PySem.W.Frag} {Z : List Addr} {H : Hp} {m : List Addr} {σ : L2.St} {G : Gam} {p : Addr} {xs ys : List V} (e : EnvOk (K, [p] ++ Z) H m σ G) (np : p ∉ m) (h : H p = some (.lst xs)) : EnvOk (K, [p] ++ Z) (upd H p (.lst ys)) m σ G :=
  ⟨e.len, fun i d q => let ⟨v, a, r⟩ := e.at_ i d q; ⟨v, a, r.grow h⟩⟩
mutual
theorem Rep.nowCell {K : PySem.W.Frag} {Z : List Addr} {H : Hp} {m : List Addr} {p : Addr} : ∀ {v : V} {d : D}, Rep (K, [p] ++ Z) H m v d → Rep (K, Z) H (m ++ [p]) v d
  | _, _, .non => .non
  | _, _, .bl b => .bl b
  | _, _, .int i => .int i
  | _, _, .str z => .str z
  | _, _, .tup q r => .tup q (Reps.nowCell r)
  | _, _, .lst q n z r => .lst q (fun e => (List.mem_append.mp e).elim n fun e => z (List.mem_append_left _ e)) (fun e => z (List.mem_append_right _ e)) (Reps.nowCell r)
  | _, _, .dic q n z e r => .dic q (fun e => (List.mem_append.mp e).elim n fun e => z (List.mem_append_left _ e)) (fun e => z (List.mem_append_right _ e)) e (Reps.nowCell r)
  | _, _, .loc q => .loc (by rw [List.getElem?_append_left (List.getElem?_eq_some_iff.mp q).1]; exact q)
  | _, _, .scr q n z r => .scr q (fun e => (List.mem_append.mp e).elim n fun e => z (List.mem_append_left _ e)) (fun e => z (List.mem_append_right _ e)) (Reps.nowCell r)
  | _, _, .scrK q r => .scrK q (Reps.nowCell r)
theorem Reps.nowCell {K : PySem.W.Frag} {Z : List Addr} {H : Hp} {m : List Addr} {p : Addr} : ∀ {vs : List V} {ds : List D}, Reps (K, [p] ++ Z) H m vs ds → Reps (K, Z) H (m ++ [p]) vs ds
  | _, _, .nil => .nil
  | _, _, .cons r t => .cons (Rep.nowCell r) (Reps.nowCell t)
end
/-- what was put aside becomes a cell -/
theorem Ok.nowCell {K : PySem.W.Frag} {Z : List Addr} {T : List Addr} {H : Hp} {m : List Addr} {S : Sto} {p : Addr} {xs : List V} {ds : List D} (ok : Ok (K, [p] ++ Z) T H m S) (h : H p = some (.lst xs)) (r : Reps (K, [p] ++ Z) H m xs ds) (np : p ∉ m)
    (nz : p ∉ Z := by first | assumption | simp_all) : Ok (K, Z) T H (m ++ [p]) (S ++ [Cell.lst ds]) := by
  have up : ∀ {vs : List V} {es : List D}, Reps (K, [p] ++ Z) H m vs es → Reps (K, Z) H (m ++ [p]) vs es := fun r => Reps.nowCell r
  refine ⟨?_, by simp [ok.len], fun n a es e1 e2 => ?_, fun n a ks es e1 e2 => ?_, ok.tab, fun a ha => ⟨fun z => ?_, (ok.hid a (List.mem_append_right _ ha)).2⟩, ok.tp⟩
  · rw [List.nodup_append]
    exact ⟨ok.nd, by simp, fun a ha b hb => by rw [List.mem_singleton.mp hb]; intro z; exact np (z ▸ ha)⟩
  · by_cases hn : n < m.length
    · rw [List.getElem?_append_left hn] at e1
      rw [List.getElem?_append_left (by rw [← ok.len]; exact hn)] at e2
      obtain ⟨ys, q, s⟩ := ok.lst n a es e1 e2
      exact ⟨ys, q, up s⟩
    · have hn1 := (List.getElem?_eq_some_iff.mp e1).1
      have hn' : n = m.length := by simp at hn1; omega
      subst hn'
      rw [List.getElem?_append_right (Nat.le_refl _)] at e1
      rw [List.getElem?_append_right (by rw [ok.len]; exact Nat.le_refl _), ok.len] at e2
      simp at e1 e2
      subst e1
      cases e2
      exact ⟨xs, h, up r⟩
  · have hn : n < m.length := by
      have hn1 := (List.getElem?_eq_some_iff.mp e1).1
      rw [List.length_append] at hn1
      by_cases hh : n < m.length
      · exact hh
      · have : n = m.length := by simp at hn1; omega
        subst this
        rw [List.getElem?_append_right (by rw [ok.len]; exact Nat.le_refl _), ok.len] at e2
        simp at e2
    rw [List.getElem?_append_left hn] at e1
    rw [List.getElem?_append_left (by rw [← ok.len]; exact hn)] at e2
    obtain ⟨ys, q, e, s⟩ := ok.dic n a ks es e1 e2
    exact ⟨ys, q, e, up s⟩
  · rcases List.mem_append.mp z with z | z
    · exact (ok.hid a (List.mem_append_right _ ha)).1 z
    · rw [List.mem_singleton.mp z] at ha; exact nz ha
end Vw
set_option maxRecDepth 100000
set_option maxHeartbeats 4000000
namespace Vw
open PySem PySem.Spec PyProof.Rows L2
abbrev MadeT (Q : VK) (xs : List V) (H : Hp) : Prop := ∀ p ob, H p = none → ob.dict = none → Q (.ref p) (upd H p (.frz ob (.tup xs)))
abbrev tupObj (us : List Value) : Obj := { cls := .type "tuple", data := .seq us.toArray }
section
variable {X : Cx} {pins : List (Addr × Obj)} {σ : L2.St} {H : Hp} {s : Shared} {Q : VK} {xs : List V} {us : List Value} {es : List Expr} {t : TA} {kk : Nat} {pos : Pos}
theorem made (I : Inv X pins σ H s) (r : Vals xs us) (hz : xs.length ≤ sizeLine) (q : MadeT Q xs H) : EP X pins σ Q (.ref s.heap.objs.size) { s with heap := s.heap.push (tupObj us) } :=
  ⟨.ref s.heap.objs.size, upd H s.heap.objs.size (.frz (tupObj us) (.tup xs)), I.laid (t' := s.toks) (fun _ _ z => Heap.get?_push_of_some _ z) (Nat.le_refl _) ⟨Heap.get?_push_size _ rfl, hz, us, r, IsTup.new _ _⟩, rfl, q _ _ (I.hok.fresh (Nat.le_refl _)) rfl⟩
def tMadeT (t : TA) : TE := fun σ H Q => t σ H fun xs H1 => xs.length ≤ sizeLine ∧ MadeT Q xs H1
theorem pe_madeT (h : PA X es t) : PE X (.Tuple es kk pos) (tMadeT t) :=
  ⟨fun pins s σ H Q I hq => wpAny_Tuple_spliced (thn (h.run pos pins s σ H _ I hq) fun us s1 ⟨xs, H1, I1, r, z, q⟩ => ⟨Nat.le_trans (Nat.le_of_eq r.length.symm) z, made I1 r z q⟩)⟩
/-- t[lo:hi], the whole of it or a part -/
def rSlM (K : PySem.W.Frag) : V → Option Int → Option Int → Hp → VK → Prop := fun x lo hi H Q => ∃ a xs, x = .ref a ∧ SqT K H a xs ∧ ((HT.sIx xs.length 0 lo = 0 ∧ HT.sIx xs.length xs.length hi = xs.length) → Q (.ref a) H) ∧ (¬ (HT.sIx xs.length 0 lo = 0 ∧ HT.sIx xs.length xs.length hi = xs.length) → MadeT Q (cutV xs lo hi) H)
theorem sl_madeT : SlR X (rSlM X.K) := by
  rintro pins s σ H _ v vl vu lo hi sl Q I rx hs pl pu ⟨a, xs, rfl, hx, q1, q2⟩
  cases rx
  obtain ⟨its, r, ht, hz⟩ := I.tuple hx
  have hn : its.toArray.size = xs.length := by rw [List.size_toArray, r.length]
  by_cases hw : HT.sIx xs.length 0 lo = 0 ∧ HT.sIx xs.length xs.length hi = xs.length
  · exact ⟨"tuple", _, PyProof.Rows.slot_tuple_getitem.lookup, ht.typeIs, getItem_tuple_whole ht hs pl pu (by rw [hn]; exact hw) ⟨.ref a, H, I, rfl, q1 hw⟩⟩
  · exact ⟨"tuple", _, PyProof.Rows.slot_tuple_getitem.lookup, ht.typeIs, HT.getItem_tuple_cut ht hs pl pu (by rw [hn]; exact hw) (by rw [hn]; exact made I ((r.drop _).take _) (Nat.le_trans (cutV_length xs lo hi) hz) (q2 hw)) (by rw [hn]; exact hz)⟩
/-- t + u -/
def rCatM (K : PySem.W.Frag) : R2 := fun x y H Q => ∃ a b xs ys, x = .ref a ∧ y = .ref b ∧ SqT K H a xs ∧ SqT K H b ys ∧ xs.length + ys.length ≤ sizeLine ∧ (xs = [] → Q (.ref b) H) ∧ (xs ≠ [] → ys = [] → Q (.ref a) H) ∧ (xs ≠ [] → ys ≠ [] → MadeT Q (xs ++ ys) H)
theorem op_catM : OpR X (binaryOp .Add) (rCatM X.K) := by
  rintro pins s σ H _ _ v u Q I rx ry ⟨a, b, xs, ys, rfl, rfl, ha, hb, hz, q0, q1, q2⟩
  cases rx; cases ry
  obtain ⟨us, r1, p1, _⟩ := I.tuple ha
  obtain ⟨vs, r2, p2, _⟩ := I.tuple hb
  by_cases hx : xs = []
  · cases hx; cases r1; exact L2.cat_tup0 p1 p2 ⟨.ref b, H, I, rfl, q0 rfl⟩
  · exact HT.cat_tup p1 p2 (fun z => hx (r1.nil_iff.mp z)) (fun z => ⟨.ref a, H, I, rfl, q1 hx (r2.nil_iff.mp z)⟩) (fun z => made I (r1.append r2) (by rw [List.length_append]; exact hz) (q2 hx fun w => z (r2.nil_iff.mpr w))) (by rw [← r1.length, ← r2.length]; exact hz)
/-- t * k, more than once -/
def rRepM (K : PySem.W.Frag) : R2 := fun x y H Q => ∃ l k xs, x = .ref l ∧ y = .int k ∧ SqT K H l xs ∧ xs ≠ [] ∧ 2 ≤ k ∧ k ≤ 1000 ∧ xs.length ≤ 1000 ∧ MadeT Q (List.replicate k.toNat xs).flatten H
theorem op_repM : OpR X (binaryOp .Mult) (rRepM X.K) := by
  rintro pins s σ H _ _ v u Q I rx ry ⟨l, k, xs, rfl, rfl, hT, hne, h1, h2, hz, q⟩
  cases rx
  obtain ⟨tk, rfl⟩ := ry
  obtain ⟨us, r, ⟨⟨oc, od, dt, os⟩, hl, hcl, n, hdt⟩, hsz⟩ := I.tuple hT
  cases (show oc = _ from hcl)
  cases (show dt = _ from hdt)
  have hlen : us.length = xs.length := r.length.symm
  have hnn : us ≠ [] := fun z => hne (by rw [z] at hlen; exact List.eq_nil_of_length_eq_zero hlen.symm)
  have hem : us.toArray.isEmpty = false := by
    cases us with
    | nil => exact absurd rfl hnn
    | cons _ _ => rfl
  have has : us.toArray.size = xs.length := by rw [List.size_toArray, hlen]
  have hmul : ((us.toArray.size : Nat) : Int) * k ≤ 1000000 := by
    have z : ((xs.length : Nat) : Int) * k ≤ 1000 * k := Int.mul_le_mul_of_nonneg_right (by omega) (by omega)
    rw [has]; omega
  have z1 : k.toNat * xs.length ≤ 1000 * 1000 := Nat.mul_le_mul (by omega) hz
  have hfl : (List.replicate k.toNat us).flatten.length ≤ sizeLine := by rw [PyProof.Rows.lm_len_rep_flat, hlen, sizeLine_eq]; omega
  have hfx : (List.replicate k.toNat xs).flatten.length ≤ sizeLine := by rw [PyProof.Rows.lm_len_rep_flat, sizeLine_eq]; omega
  have g0 : (decide (k < -(2 ^ 63)) || decide (k ≥ 2 ^ 63)) = false := by simp only [Bool.or_eq_false_iff, decide_eq_false_iff_not]; exact ⟨by omega, by omega⟩
  have g1 : (us.toArray.isEmpty || k == 1) = false := by rw [hem]; exact beq_eq_false_iff_ne.mpr (by omega)
  have g2 : (decide (k ≤ 0) || us.toArray.isEmpty) = false := by rw [hem]; simp only [Bool.or_false, decide_eq_false_iff_not]; omega
  have g4 : Builtin.Tuple.tupleTooMany (((us.toArray.size : Nat) : Int) * k) = false := by unfold Builtin.Tuple.tupleTooMany; rw [sizeLine_eq]; simp only [decide_eq_false_iff_not]; omega
  refine wpAny_binaryOp_repeat_ref (T := "tuple") (U := "int") (by decide) ⟨_, hl, rfl⟩ (fun s' => typeIs_int s' k tk) noFill_tuple_mul F.fills_int_mul F.slot_int_rmul repeat_tuple F.slot_int_index.lookup (call_meets F.slot_int_rmul (typeIs_int s k tk) F.entry_int_rmul (F.args_int_rmul_2 _ _) (int_rmul_tuple k tk l us.toArray n od os) ⟨hl, rfl, ⟨_, hl, rfl⟩, call_meets F.slot_tuple_mul ⟨_, hl, rfl⟩ F.entry_tuple_mul (F.args_tuple_mul_2 _ _) (tuple_mulW l us.toArray n od os k tk g0 g1 g2 (by omega) g4 (by rw [size_rep, List.size_toArray]; exact hfl)) ⟨hl, ?_⟩⟩)
  rw [size_rep]
  exact made I (r.rep k.toNat) hfx q
/-- tuple(xs) -/
theorem call_madeT : CallR X (.type "tuple") (fun xs H Q => ∃ p ys, xs = [.ref p] ∧ ((SqL X.K H p ys ∧ MadeT Q ys H) ∨ (SqT X.K H p ys ∧ Q (.ref p) H))) := by
  rintro pins s σ H _ us Q I r ⟨p, ys, rfl, h⟩
  obtain ⟨u, rfl, rx⟩ := vals1 r
  cases rx
  rcases h with ⟨hq, q⟩ | ⟨hq, q⟩
  · obtain ⟨its, r', pl, hz⟩ := I.list hq
    exact call_tuple_list pl.isList (fun h' kp => made (s := { s with heap := h' }) (I.kept (t' := s.toks) kp) r' hz q) (by have := r'.length; simp only [List.size_toArray]; omega)
  · obtain ⟨its, r', pl, hz⟩ := I.tuple hq
    exact call_tuple_same pl ⟨.ref p, H, I, rfl, q⟩
end
end Vw
set_option maxRecDepth 100000
set_option maxHeartbeats 4000000
namespace Vw
open PySem PySem.Spec L2
abbrev DE := Gam → Sto → Option (D × Sto)
abbrev DT := Gam → Sto → Option (Bool × Sto)
abbrev DA := Gam → Sto → Option (List D × Sto)
theorem peImp {X : Cx} {e : Expr} {t t' : TE} (h : PE X e t) (w : ∀ σ H Q, t' σ H Q → t σ H Q) : PE X e t' :=
  ⟨fun pins s σ H Q I q => h.run pins s σ H Q I (w σ H Q q)⟩
theorem ptImp {X : Cx} {e : Expr} {t t' : TT} (h : PT X e t) (w : ∀ σ H Q, t' σ H Q → t σ H Q) : PT X e t' :=
  ⟨fun pins s σ H Q I q => h.run pins s σ H Q I (w σ H Q q)⟩
theorem paImp {X : Cx} {e : List Expr} {t t' : TA} (h : PA X e t) (w : ∀ σ H Q, t' σ H Q → t σ H Q) : PA X e t' :=
  ⟨fun pos pins s σ H Q I q => h.run pos pins s σ H Q I (w σ H Q q)⟩
def tD (K : PySem.W.Frag) (T : List Addr) (f : DE) : TE := fun σ H Q => ∃ (Z : List Addr) (G : Gam) (S : Sto) (m : List Addr) (d : D) (S' : Sto), Ok (K, Z) T H m S ∧ EnvOk (K, Z) H m σ G ∧ f G S = some (d, S') ∧
  ∀ v H' m', Ext T H m H' m' → Ok (K, Z) T H' m' S' → Rep (K, Z) H' m' v d → Q v H'
def tB (K : PySem.W.Frag) (T : List Addr) (f : DT) : TT := fun σ H Q => ∃ (Z : List Addr) (G : Gam) (S : Sto) (m : List Addr) (b : Bool) (S' : Sto), Ok (K, Z) T H m S ∧ EnvOk (K, Z) H m σ G ∧ f G S = some (b, S') ∧
  ∀ H' m', Ext T H m H' m' → Ok (K, Z) T H' m' S' → Q b H'
def tA (K : PySem.W.Frag) (T : List Addr) (f : DA) : TA := fun σ H Q => ∃ (Z : List Addr) (G : Gam) (S : Sto) (m : List Addr) (ds : List D) (S' : Sto), Ok (K, Z) T H m S ∧ EnvOk (K, Z) H m σ G ∧ f G S = some (ds, S') ∧
  ∀ vs H' m', Ext T H m H' m' → Ok (K, Z) T H' m' S' → Reps (K, Z) H' m' vs ds → Q vs H'
section
variable {K : PySem.W.Frag} {Z : List Addr} {T : List Addr} {H : Hp} {m : List Addr} {S S1 : Sto} {σ : L2.St} {G : Gam}
theorem tD.go {f : DE} {d : D} {R : VK} (ok : Ok (K, Z) T H m S) (en : EnvOk (K, Z) H m σ G) (e : f G S = some (d, S1))
    (h : ∀ v H1 m1, Ext T H m H1 m1 → Ok (K, Z) T H1 m1 S1 → EnvOk (K, Z) H1 m1 σ G → Rep (K, Z) H1 m1 v d → R v H1) : tD K T f σ H R :=
  ⟨Z, G, S, m, d, S1, ok, en, e, fun v H1 m1 x o r => h v H1 m1 x o (en.mono x ok) r⟩
theorem tB.go {f : DT} {b : Bool} {R : Bool → Hp → Prop} (ok : Ok (K, Z) T H m S) (en : EnvOk (K, Z) H m σ G) (e : f G S = some (b, S1))
    (h : ∀ H1 m1, Ext T H m H1 m1 → Ok (K, Z) T H1 m1 S1 → EnvOk (K, Z) H1 m1 σ G → R b H1) : tB K T f σ H R :=
  ⟨Z, G, S, m, b, S1, ok, en, e, fun H1 m1 x o => h H1 m1 x o (en.mono x ok)⟩
theorem tA.go {f : DA} {ds : List D} {R : List V → Hp → Prop} (ok : Ok (K, Z) T H m S) (en : EnvOk (K, Z) H m σ G) (e : f G S = some (ds, S1))
    (h : ∀ vs H1 m1, Ext T H m H1 m1 → Ok (K, Z) T H1 m1 S1 → EnvOk (K, Z) H1 m1 σ G → Reps (K, Z) H1 m1 vs ds → R vs H1) : tA K T f σ H R :=
  ⟨Z, G, S, m, ds, S1, ok, en, e, fun v H1 m1 x o r => h v H1 m1 x o (en.mono x ok) r⟩
end
section
variable {X : Cx} {T : List Addr} {e a b : Expr} {es : List Expr}
def dVar (i : Nat) : DE := fun G S => match G[i]? with | some (some d) => some (d, S) | _ => none
theorem rVar {i : Nat} (h : PE X e (tVar i)) : PE X e (tD X.K T (dVar i)) := by
  refine peImp h fun σ H Q ⟨Z, G, S, m, d, S', ok, en, f, q⟩ => ?_
  unfold dVar at f
  split at f
  · rename_i d' eg
    cases f
    obtain ⟨v, ev, r⟩ := en.at_ i _ eg
    exact ⟨v, ev, q v H m Ext.refl ok r⟩
  · cases f
def dCon (d : D) : DE := fun _ S => some (d, S)
theorem rCon {v : V} {d : D} (h : PE X e (tC v)) (r : ∀ Z H m S, Ok (X.K, Z) T H m S → Rep (X.K, Z) H m v d) : PE X e (tD X.K T (dCon d)) := by
  refine peImp h fun σ H Q ⟨Z, G, S, m, d', S', ok, en, f, q⟩ => ?_
  cases f
  exact q v H m Ext.refl ok (r Z H m S ok)
def dBin (op : D → D → Sto → Option (D × Sto)) (fa fb : DE) : DE := fun G S =>
  (fa G S).bind fun p => (fb G p.2).bind fun q => op p.1 q.1 q.2
def Rule2 (K : PySem.W.Frag) (T : List Addr) (r : R2) (op : D → D → Sto → Option (D × Sto)) : Prop :=
  ∀ (Z : List Addr) (H : Hp) (m : List Addr) (S : Sto) (x y : V) (c d : D) (z : D) (S' : Sto) (Q : VK), Ok (K, Z) T H m S → Rep (K, Z) H m x c → Rep (K, Z) H m y d → op c d S = some (z, S') →
    (∀ v H' m', Ext T H m H' m' → Ok (K, Z) T H' m' S' → Rep (K, Z) H' m' v z → Q v H') → r x y H Q
theorem opened2 {r : R2} {op : D → D → Sto → Option (D × Sto)} {fa fb : DE} (ro : Rule2 X.K T r op) : ∀ σ H Q, tD X.K T (dBin op fa fb) σ H Q → tOp r (tD X.K T fa) (tD X.K T fb) σ H Q := by
  rintro σ H Q ⟨Z, G, S, m, d, S', ok, en, f, q⟩
  unfold dBin at f
  obtain ⟨⟨x, S1⟩, e1, f⟩ := Option.bind_eq_some_iff.mp f
  obtain ⟨⟨y, S2⟩, e2, f⟩ := Option.bind_eq_some_iff.mp f
  refine tD.go ok en e1 fun v H1 m1 x1 o1 en1 r1 => ?_
  refine tD.go o1 en1 e2 fun u H2 m2 x2 o2 en2 r2 => ?_
  exact ro Z H2 m2 S2 v u x y d S' Q o2 (r1.mono x2 o1) r2 f fun w H3 m3 x3 o3 r3 => q w H3 m3 ((x1.trans x2).trans x3) o3 r3
theorem rBin {r : R2} {op : D → D → Sto → Option (D × Sto)} {fa fb : DE} (h : PE X e (tOp r (tD X.K T fa) (tD X.K T fb))) (ro : Rule2 X.K T r op) : PE X e (tD X.K T (dBin op fa fb)) :=
  peImp h (opened2 ro)
def dUn (op : D → Sto → Option (D × Sto)) (fa : DE) : DE := fun G S => (fa G S).bind fun p => op p.1 p.2
def Rule1 (K : PySem.W.Frag) (T : List Addr) (r : V → Hp → VK → Prop) (op : D → Sto → Option (D × Sto)) : Prop :=
  ∀ (Z : List Addr) (H : Hp) (m : List Addr) (S : Sto) (x : V) (c : D) (z : D) (S' : Sto) (Q : VK), Ok (K, Z) T H m S → Rep (K, Z) H m x c → op c S = some (z, S') →
    (∀ v H' m', Ext T H m H' m' → Ok (K, Z) T H' m' S' → Rep (K, Z) H' m' v z → Q v H') → r x H Q
theorem rUn {r : V → Hp → VK → Prop} {op : D → Sto → Option (D × Sto)} {fa : DE} (h : PE X e (tUn r (tD X.K T fa))) (ro : Rule1 X.K T r op) : PE X e (tD X.K T (dUn op fa)) := by
  refine peImp h fun σ H Q ⟨Z, G, S, m, d, S', ok, en, f, q⟩ => ?_
  unfold dUn at f
  obtain ⟨⟨x, S1⟩, e1, f⟩ := Option.bind_eq_some_iff.mp f
  refine tD.go ok en e1 fun v H1 m1 x1 o1 en1 r1 => ?_
  exact ro Z H1 m1 S1 v x d S' Q o1 r1 f fun w H3 m3 x3 o3 r3 => q w H3 m3 (x1.trans x3) o3 r3
def dNil : DA := fun _ S => some ([], S)
def dCons (fa : DE) (fr : DA) : DA := fun G S => (fa G S).bind fun p => (fr G p.2).bind fun q => some (p.1 :: q.1, q.2)
theorem rNil : PA X [] (tA X.K T dNil) := by
  refine paImp pa_nil fun σ H Q ⟨Z, G, S, m, d, S', ok, en, f, q⟩ => ?_
  cases f
  exact q [] H m Ext.refl ok .nil
theorem rCons {fa : DE} {fr : DA} (h : PE X e (tD X.K T fa)) (hr : PA X es (tA X.K T fr)) (hs : starEach (e :: es) X.env = (false, eval e X.env) :: starEach es X.env) : PA X (e :: es) (tA X.K T (dCons fa fr)) := by
  refine paImp (pa_cons h hr hs) fun σ H Q ⟨Z, G, S, m, d, S', ok, en, f, q⟩ => ?_
  unfold dCons at f
  obtain ⟨⟨x, S1⟩, e1, f⟩ := Option.bind_eq_some_iff.mp f
  obtain ⟨⟨y, S2⟩, e2, f⟩ := Option.bind_eq_some_iff.mp f
  cases f
  refine tD.go ok en e1 fun v H1 m1 x1 o1 en1 r1 => ?_
  refine tA.go o1 en1 e2 fun u H2 m2 x2 o2 en2 r2 => ?_
  exact q _ H2 m2 (x1.trans x2) o2 (.cons (r1.mono x2 o1) r2)
def lim : Nat := 1000000
theorem lim_le {n : Nat} (h : n ≤ lim) : n ≤ sizeLine := Nat.le_trans h (by decide)
theorem lim_lt {n : Nat} (h : n ≤ lim) : n < sizeLine := Nat.lt_of_le_of_lt h (by decide)
def okTup (xs : List D) (S : Sto) : Option (D × Sto) := if xs.length ≤ lim then some (.tup xs, S) else none
/-- a new list: as a value, or a cell -/
def okLst (c : Bool) (xs : List D) (S : Sto) : Option (D × Sto) :=
  if xs.length ≤ lim then (if c then some (.loc S.length, S ++ [Cell.lst xs]) else some (.lst xs, S)) else none
def okDic (c : Bool) (ks : List Key) (xs : List D) (S : Sto) : Option (D × Sto) :=
  if xs.length ≤ lim then (if c then some (.loc S.length, S ++ [Cell.dic ks xs]) else some (.dic ks xs, S)) else none
section
variable {K : PySem.W.Frag × List Addr} {T : List Addr} {H : Hp} {m : List Addr} {S S' : Sto} {p : Addr} {xs : List V} {ds : List D} {d : D} {Q : VK}
theorem newTup {ob : Obj} (ok : Ok K T H m S) (h : H p = none) (hb : ob.dict = none) (r : Reps K H m xs ds) (f : okTup ds S = some (d, S'))
    (q : ∀ v H' m', Ext T H m H' m' → Ok K T H' m' S' → Rep K H' m' v d → Q v H') : Q (.ref p) (upd H p (.frz ob (.tup xs))) := by
  unfold okTup at f
  split at f
  · cases f
    have x := Ext.laid (o := .frz ob (.tup xs)) ok h
    exact q _ _ m x (ok.laid h hb) (.tup (.inl (.inr ⟨ob, upd_same⟩)) (r.mono x ok))
  · cases f
theorem newLst {c : Bool} (ok : Ok K T H m S) (h : H p = none) (r : Reps K H m xs ds) (f : okLst c ds S = some (d, S'))
    (q : ∀ v H' m', Ext T H m H' m' → Ok K T H' m' S' → Rep K H' m' v d → Q v H') : Q (.ref p) (upd H p (.lst xs)) := by
  unfold okLst at f
  split at f
  · split at f
    · cases f
      refine q _ _ (m ++ [p]) (Ext.cell ok h) (ok.newLst h r) (.loc ?_)
      rw [← ok.len]; simp
    · cases f
      have x := Ext.laid (o := .lst xs) ok h
      exact q _ _ m x (ok.laid h) (.lst upd_same (ok.free h).1 (ok.free h).2.2 (r.mono x ok))
  · cases f
theorem okTup_len (f : okTup ds S = some (d, S')) : ds.length ≤ lim := by
  unfold okTup at f
  split at f
  · assumption
  · cases f
theorem okLst_len {c : Bool} (f : okLst c ds S = some (d, S')) : ds.length ≤ lim := by
  unfold okLst at f
  split at f
  · assumption
  · cases f
end
def dTup (fr : DA) : DE := fun G S => (fr G S).bind fun p => okTup p.1 p.2
theorem rTup {fr : DA} {k : Nat} {pos : Pos} (h : PA X es (tA X.K T fr)) : PE X (.Tuple es k pos) (tD X.K T (dTup fr)) := by
  refine peImp (pe_madeT h) fun σ H Q ⟨Z, G, S, m, d, S', ok, en, f, q⟩ => ?_
  unfold dTup at f
  obtain ⟨⟨x, S1⟩, e1, f⟩ := Option.bind_eq_some_iff.mp f
  refine tA.go ok en e1 fun v H1 m1 x1 o1 en1 r1 => ⟨?_, fun p ob hp hb => ?_⟩
  · rw [r1.len]; exact lim_le (okTup_len f)
  · exact newTup (Q := Q) o1 hp hb r1 f fun w H3 m3 x3 o3 r3 => q w H3 m3 (x1.trans x3) o3 r3
def dLst (c : Bool) (fr : DA) : DE := fun G S => (fr G S).bind fun p => okLst c p.1 p.2
theorem rLst {fr : DA} {c : Bool} {pos : Pos} (h : PA X es (tA X.K T fr)) : PE X (.List es pos) (tD X.K T (dLst c fr)) := by
  refine peImp (pe_lst h) fun σ H Q ⟨Z, G, S, m, d, S', ok, en, f, q⟩ => ?_
  unfold dLst at f
  obtain ⟨⟨x, S1⟩, e1, f⟩ := Option.bind_eq_some_iff.mp f
  refine tA.go ok en e1 fun v H1 m1 x1 o1 en1 r1 => ⟨?_, fun p hp => ?_⟩
  · rw [r1.len]; exact lim_le (okLst_len f)
  · exact newLst (Q := Q) o1 hp r1 f fun w H3 m3 x3 o3 r3 => q w H3 m3 (x1.trans x3) o3 r3
def dTst (f : DE) : DT := fun G S => (f G S).bind fun p => match p.1 with | .bl b => some (b, p.2) | _ => none
/-- a value that is True or False -/
theorem rTst {f : DE} (h : PE X e (tD X.K T f)) (he : ∀ whole, isTrue e X.env whole = (do let v ← whole; standAt e.pos; holding [v] (truthy v))) : PT X e (tB X.K T (dTst f)) := by
  refine ptImp (pt_val h he) fun σ H Q ⟨Z, G, S, m, b, S', ok, en, f, q⟩ => ?_
  unfold dTst at f
  obtain ⟨⟨x, S1⟩, e1, f⟩ := Option.bind_eq_some_iff.mp f
  refine tD.go ok en e1 fun v H1 m1 x1 o1 en1 r1 => ?_
  cases x with
  | bl c => cases f; cases r1; exact ⟨_, rfl, q H1 m1 x1 o1⟩
  | _ => cases f
/-- a comparison in a test -/
def dCmpT (op : D → D → Sto → Option (D × Sto)) (fa fb : DE) : DT := dTst (dBin op fa fb)
theorem rCmpT {r : R2} {op : D → D → Sto → Option (D × Sto)} {fa fb : DE} (h : PT X e (tTest (tOp r (tD X.K T fa) (tD X.K T fb)))) (ro : Rule2 X.K T r op) : PT X e (tB X.K T (dCmpT op fa fb)) := by
  refine ptImp h fun σ H Q ⟨Z, G, S, m, b, S', ok, en, f, q⟩ => ?_
  unfold dCmpT dTst at f
  obtain ⟨⟨x, S1⟩, e1, f⟩ := Option.bind_eq_some_iff.mp f
  refine opened2 ro σ H _ ?_
  refine tD.go ok en e1 fun v H1 m1 x1 o1 en1 r1 => ?_
  cases x with
  | bl c => cases f; cases r1; exact ⟨_, rfl, q H1 m1 x1 o1⟩
  | _ => cases f
def dAnd (fa fb : DT) : DT := fun G S => (fa G S).bind fun p => if p.1 = true then fb G p.2 else some (false, p.2)
def dOr (fa fb : DT) : DT := fun G S => (fa G S).bind fun p => if p.1 = true then some (true, p.2) else fb G p.2
def dNot (fa : DT) : DT := fun G S => (fa G S).bind fun p => some (!p.1, p.2)
theorem openOr {fa fb : DT} : ∀ σ H Q, tB X.K T (dOr fa fb) σ H Q → tOr (tB X.K T fa) (tB X.K T fb) σ H Q := by
  rintro σ H Q ⟨Z, G, S, m, b, S', ok, en, f, q⟩
  unfold dOr at f
  obtain ⟨⟨x, S1⟩, e1, f⟩ := Option.bind_eq_some_iff.mp f
  refine tB.go ok en e1 fun H1 m1 x1 o1 en1 => ?_
  cases x with
  | false => exact tB.go o1 en1 f fun H2 m2 x2 o2 en2 => q H2 m2 (x1.trans x2) o2
  | true => cases f; exact q H1 m1 x1 o1
theorem pwImp {t t' : TT} (h : PW X e t) (w : ∀ σ H Q, t' σ H Q → t σ H Q) : PW X e t' :=
  ⟨fun wh pins s σ H Q I q => h.run wh pins s σ H Q I (w σ H Q q)⟩
theorem rNot {fa : DT} {pos : Pos} (h : PT X a (tB X.K T fa)) : PT X (.UnaryOp .Not a pos) (tB X.K T (dNot fa)) := by
  refine ptImp (pt_not h) fun σ H Q ⟨Z, G, S, m, b, S', ok, en, f, q⟩ => ?_
  unfold dNot at f
  obtain ⟨⟨x, S1⟩, e1, f⟩ := Option.bind_eq_some_iff.mp f
  cases f
  exact tB.go ok en e1 fun H1 m1 x1 o1 en1 => q H1 m1 x1 o1
/-- a if t else b -/
def dIf (ft : DT) (fa fb : DE) : DE := fun G S => (ft G S).bind fun p => if p.1 = true then fa G p.2 else fb G p.2
theorem rIf {c : Expr} {ft : DT} {fa fb : DE} {pos : Pos} (hc : PT X c (tB X.K T ft)) (ha : PE X a (tD X.K T fa)) (hb : PE X b (tD X.K T fb)) : PE X (.IfExp c a b pos) (tD X.K T (dIf ft fa fb)) := by
  refine peImp (pe_ifExp hc ha hb) fun σ H Q ⟨Z, G, S, m, d, S', ok, en, f, q⟩ => ?_
  unfold dIf at f
  obtain ⟨⟨x, S1⟩, e1, f⟩ := Option.bind_eq_some_iff.mp f
  refine tB.go ok en e1 fun H1 m1 x1 o1 en1 => ?_
  cases x with
  | true => exact tD.go o1 en1 f fun v H2 m2 x2 o2 en2 r => q v H2 m2 (x1.trans x2) o2 r
  | false => exact tD.go o1 en1 f fun v H2 m2 x2 o2 en2 r => q v H2 m2 (x1.trans x2) o2 r
/-- and, or, not as values: truths alone -/
def dAndV (fa fb : DE) : DE := fun G S => (dTst fa G S).bind fun p => if p.1 = true then fb G p.2 else some (.bl false, p.2)
def dOrV (fa fb : DE) : DE := fun G S => (dTst fa G S).bind fun p => if p.1 = true then some (.bl true, p.2) else fb G p.2
theorem dTst_some {f : DE} {G : Gam} {S S' : Sto} {b : Bool} (h : dTst f G S = some (b, S')) : f G S = some (.bl b, S') := by
  unfold dTst at h
  obtain ⟨⟨x, S1⟩, e1, h⟩ := Option.bind_eq_some_iff.mp h
  cases x <;> cases h
  exact e1
theorem rAndV {rest : List Expr} {fa fb : DE} {pos : Pos} (ha : PE X a (tD X.K T fa)) (hb : PE X (.BoolOp .And (b :: rest) pos) (tD X.K T fb)) : PE X (.BoolOp .And (a :: b :: rest) pos) (tD X.K T (dAndV fa fb)) := by
  refine peImp (pe_and ha hb) fun σ H Q ⟨Z, G, S, m, d, S', ok, en, f, q⟩ => ?_
  unfold dAndV at f
  obtain ⟨⟨x, S1⟩, e1, f⟩ := Option.bind_eq_some_iff.mp f
  refine tD.go ok en (dTst_some e1) fun v H1 m1 x1 o1 en1 r1 => ?_
  cases r1
  refine ⟨_, rfl, ?_⟩
  cases x with
  | true => exact tD.go o1 en1 f fun v H2 m2 x2 o2 en2 r => q v H2 m2 (x1.trans x2) o2 r
  | false => cases f; exact q _ H1 m1 x1 o1 (.bl _)
def dNotV (fa : DE) : DE := fun G S => (dTst fa G S).bind fun p => some (.bl (!p.1), p.2)
end
end Vw
set_option maxRecDepth 100000
set_option maxHeartbeats 4000000
namespace Vw
open PySem PySem.Spec L2
def rOr (r r' : R2) : R2 := fun x y H Q => r x y H Q ∨ r' x y H Q
theorem opOr {X : Cx} {f : Value → Value → Sem Value} {r r' : R2} (h : OpR X f r) (h' : OpR X f r') : OpR X f (rOr r r') := OpR.or h h'
theorem peOr {X : Cx} {e : Expr} {t t' : TE} (h : PE X e t) (h' : PE X e t') : PE X e (fun σ H Q => t σ H Q ∨ t' σ H Q) :=
  ⟨fun pins s σ H Q I q => q.elim (h.run pins s σ H Q I) (h'.run pins s σ H Q I)⟩
mutual
def toP (fl : Nat → Option PyData) : D → Option PyData
  | .non => some .none
  | .bl b => some (.bool b)
  | .int i => some (.int i)
  | .str x => some (.str x)
  | .tup xs => (toPs fl xs).map PyData.tuple
  | .lst xs => (toPs fl xs).map PyData.list
  | .scr xs => (toPs fl xs).map PyData.list
  | .dic _ _ => none
  | .loc n => fl n
def toPs (fl : Nat → Option PyData) : List D → Option (List PyData)
  | [] => some []
  | x :: xs => (toP fl x).bind fun p => (toPs fl xs).map (p :: ·)
end
def noCell : Nat → Option PyData := fun _ => none
def cell1 (fl : Nat → Option PyData) (S : Sto) : Nat → Option PyData := fun n => match S[n]? with
  | some (.lst xs) => (toPs fl xs).map PyData.list
  | _ => none
/-- cells in cells -/
def pyOf (S : Sto) (d : D) : Option PyData := toP (cell1 (cell1 noCell S) S) d
section
variable {K : PySem.W.Frag × List Addr} {T : List Addr} {H : Hp} {m : List Addr} {S : Sto}
mutual
theorem toP_ok {fl : Nat → Option PyData} (hf : ∀ n a p, m[n]? = some a → fl n = some p → Dp K.1 H (.ref a) p) : ∀ {d : D} {v : V} {p : PyData}, Rep K H m v d → toP fl d = some p → Dp K.1 H v p
  | .non, _, _, r, e => by cases r; cases e; exact .non
  | .bl b, _, _, r, e => by cases r; cases e; exact .bl b
  | .int i, _, _, r, e => by cases r; cases e; exact .int i
  | .str x, _, _, r, e => by cases r; cases e; exact .str x
  | .tup xs, _, _, r, e => by
    cases r with
    | tup h rs =>
      obtain ⟨ps, e1, e2⟩ := Option.map_eq_some_iff.mp e
      subst e2
      exact .tup h (toPs_ok hf rs e1)
  | .lst xs, _, _, r, e => by
    cases r with
    | lst h n _ rs =>
      obtain ⟨ps, e1, e2⟩ := Option.map_eq_some_iff.mp e
      subst e2
      exact .lst (SqL.of h) (toPs_ok hf rs e1)
  | .scr xs, _, _, r, e => by
    cases r with
    | scr h n _ rs =>
      obtain ⟨ps, e1, e2⟩ := Option.map_eq_some_iff.mp e
      subst e2
      exact .lst (.inl h) (toPs_ok hf rs e1)
    | scrK h rs =>
      obtain ⟨ps, e1, e2⟩ := Option.map_eq_some_iff.mp e
      subst e2
      refine .lst (.inr ?_) (toPs_ok hf rs e1)
      rcases h with (h | ⟨o, h⟩) | h
      · cases h
      · cases h
      · exact h
  | .dic _ _, _, _, _, e => by cases e
  | .loc n, _, _, r, e => by
    cases r with
    | loc h => exact hf n _ _ h e
theorem toPs_ok {fl : Nat → Option PyData} (hf : ∀ n a p, m[n]? = some a → fl n = some p → Dp K.1 H (.ref a) p) : ∀ {ds : List D} {vs : List V} {ps : List PyData}, Reps K H m vs ds → toPs fl ds = some ps → DpAll K.1 H vs ps
  | [], _, _, r, e => by cases r; cases e; exact .nil
  | d :: ds, _, _, r, e => by
    cases r with
    | cons r1 r2 =>
      unfold toPs at e
      obtain ⟨p, e1, e⟩ := Option.bind_eq_some_iff.mp e
      obtain ⟨ps, e2, e3⟩ := Option.map_eq_some_iff.mp e
      subst e3
      exact .cons (toP_ok hf r1 e1) (toPs_ok hf r2 e2)
end
theorem cell1_ok (ok : Ok K T H m S) {fl : Nat → Option PyData} (hf : ∀ n a p, m[n]? = some a → fl n = some p → Dp K.1 H (.ref a) p) : ∀ n a p, m[n]? = some a → cell1 fl S n = some p → Dp K.1 H (.ref a) p := by
  intro n a p h e
  unfold cell1 at e
  split at e
  · rename_i xs es
    obtain ⟨ps, e1, e2⟩ := Option.map_eq_some_iff.mp e
    subst e2
    obtain ⟨ys, q, r⟩ := ok.lst n a xs h es
    exact .lst (SqL.of q) (toPs_ok hf r e1)
  · cases e
theorem pyOf_ok (ok : Ok K T H m S) {d : D} {v : V} {p : PyData} (r : Rep K H m v d) (e : pyOf S d = some p) : Dp K.1 H v p :=
  toP_ok (cell1_ok ok (cell1_ok ok (fun _ _ _ _ z => by cases z))) r e
end
def small (i : Int) : Bool := decide (-(2 ^ 64) < i) && decide (i < 2 ^ 64)
theorem small_iff {i : Int} (h : small i = true) : -(2 ^ 64) < i ∧ i < 2 ^ 64 := by
  unfold small at h
  simpa using h
def opAdd (c : Bool) : D → D → Sto → Option (D × Sto)
  | .int i, .int j, S => some (.int (i + j), S)
  | .str a, .str b, S => if a.length + b.length ≤ lim then some (.str (a ++ b), S) else none
  | .tup xs, .tup ys, S => okTup (xs ++ ys) S
  | .lst xs, .lst ys, S => okLst c (xs ++ ys) S
  | _, _, _ => none
def rAdd (K : PySem.W.Frag) : R2 := rOr (rI0 fun i j => .int (i + j)) (rOr (fun x y H Q => ∃ i j, x = .str i ∧ y = .str j ∧ i.length + j.length ≤ sizeLine ∧ Q (.str (i ++ j)) H) (rOr (rCatM K) rCat))
theorem opr_add {X : Cx} : OpR X (binaryOp .Add) (rAdd X.K) := opOr op_add (opOr op_add_str (opOr op_catM op_cat))
theorem rule_add {K : PySem.W.Frag} {T : List Addr} {c : Bool} : Rule2 K T (rAdd K) (opAdd c) := by
  intro Z H m S x y a b z S' Q ok rx ry f q
  unfold opAdd at f
  split at f
  · cases rx; cases ry; cases f
    exact .inl ⟨_, _, rfl, rfl, q _ H m Ext.refl ok (.int _)⟩
  · split at f
    · rename_i hl
      cases rx; cases ry; cases f
      exact .inr (.inl ⟨_, _, rfl, rfl, lim_le hl, q _ H m Ext.refl ok (.str _)⟩)
    · cases f
  · cases rx with
    | tup h1 r1 =>
      cases ry with
      | tup h2 r2 =>
        have hl := okTup_len f
        rw [List.length_append] at hl
        refine .inr (.inr (.inl ⟨_, _, _, _, rfl, rfl, h1, h2, ?_, fun e => ?_, fun _ e => ?_, fun _ _ p ob hp hb => ?_⟩))
        · rw [r1.len, r2.len]; exact lim_le hl
        · subst e
          cases r1
          unfold okTup at f
          split at f
          · cases f; exact q _ H m Ext.refl ok (.tup h2 r2)
          · cases f
        · subst e
          cases r2
          unfold okTup at f
          split at f
          · cases f
            rw [List.append_nil] at q
            exact q _ H m Ext.refl ok (.tup h1 r1)
          · cases f
        · exact newTup (Q := Q) ok hp hb (r1.app r2) f q
  · cases rx with
    | lst h1 n1 _ r1 =>
      cases ry with
      | lst h2 n2 _ r2 =>
        have hl := okLst_len f
        rw [List.length_append] at hl
        refine .inr (.inr (.inr ⟨_, _, _, _, rfl, rfl, h1, h2, ?_, fun p hp => ?_⟩))
        · rw [r1.len, r2.len]; exact lim_le hl
        · exact newLst (Q := Q) ok hp (r1.app r2) f q
  · cases f
def opSub : D → D → Sto → Option (D × Sto)
  | .int i, .int j, S => some (.int (i - j), S)
  | _, _, _ => none
def opMod : D → D → Sto → Option (D × Sto)
  | .int i, .int j, S => if 0 < j then some (.int (i % j), S) else none
  | _, _, _ => none
theorem rule_mod {K : PySem.W.Frag} {T : List Addr} : Rule2 K T (rI (fun _ j => 0 < j) fun i j => .int (i % j)) opMod := by
  intro Z H m S x y a b z S' Q ok rx ry f q
  unfold opMod at f
  split at f
  · split at f
    · cases rx; cases ry; cases f
      exact ⟨_, _, rfl, rfl, by assumption, q _ H m Ext.refl ok (.int _)⟩
    · cases f
  · cases f
def opDiv : D → D → Sto → Option (D × Sto)
  | .int i, .int j, S => if 0 < j ∧ j < 1073741824 then some (.int (i / j), S) else none
  | _, _, _ => none
theorem rule_div {K : PySem.W.Frag} {T : List Addr} : Rule2 K T (rI CDiv fun i j => .int (i / j)) opDiv := by
  intro Z H m S x y a b z S' Q ok rx ry f q
  unfold opDiv at f
  split at f
  · split at f
    · cases rx; cases ry; cases f
      exact ⟨_, _, rfl, rfl, by assumption, q _ H m Ext.refl ok (.int _)⟩
    · cases f
  · cases f
def opPow : D → D → Sto → Option (D × Sto)
  | .int i, .int j, S => if (0 ≤ j ∧ j ≤ 1000) ∧ i.natAbs < 2 ^ 64 then some (.int (i ^ j.toNat), S) else none
  | _, _, _ => none
theorem rule_pow {K : PySem.W.Frag} {T : List Addr} : Rule2 K T (rI CPow fun i j => .int (i ^ j.toNat)) opPow := by
  intro Z H m S x y a b z S' Q ok rx ry f q
  unfold opPow at f
  split at f
  · split at f
    · rename_i hc
      cases rx; cases ry; cases f
      exact ⟨_, _, rfl, rfl, ⟨hc.1.1, by omega, hc.2⟩, q _ H m Ext.refl ok (.int _)⟩
    · cases f
  · cases f
def opMul (c : Bool) : D → D → Sto → Option (D × Sto)
  | .int i, .int j, S => if small i = true ∨ small j = true then some (.int (i * j), S) else none
  | .lst xs, .int k, S => if 0 ≤ k ∧ k ≤ 10000 ∧ xs.length ≤ 10000 then okLst c (List.replicate k.toNat xs).flatten S else none
  | .tup xs, .int k, S => if 2 ≤ k ∧ k ≤ 1000 ∧ xs.length ≤ 1000 ∧ xs.isEmpty = false then okTup (List.replicate k.toNat xs).flatten S else none
  | _, _, _ => none
def rMul (K : PySem.W.Frag) : R2 := rOr (rI CMul fun i j => .int (i * j)) (rOr rRep (rRepM K))
theorem opr_mul {X : Cx} : OpR X (binaryOp .Mult) (rMul X.K) := opOr op_mul (opOr op_rep op_repM)
theorem Reps.flat {K : PySem.W.Frag × List Addr} {H : Hp} {m : List Addr} {vs : List V} {ds : List D} (r : Reps K H m vs ds) : ∀ n : Nat, Reps K H m (List.replicate n vs).flatten (List.replicate n ds).flatten
  | 0 => .nil
  | n + 1 => by
    rw [List.replicate_succ, List.replicate_succ, List.flatten_cons, List.flatten_cons]
    exact r.app (r.flat n)
theorem rule_mul {K : PySem.W.Frag} {T : List Addr} {c : Bool} : Rule2 K T (rMul K) (opMul c) := by
  intro Z H m S x y a b z S' Q ok rx ry f q
  unfold opMul at f
  split at f
  · split at f
    · rename_i hc
      cases rx; cases ry; cases f
      refine .inl ⟨_, _, rfl, rfl, ?_, q _ H m Ext.refl ok (.int _)⟩
      rcases hc with h | h
      · exact .inl (small_iff h)
      · exact .inr (small_iff h)
    · cases f
  · split at f
    · rename_i hc
      cases ry
      cases rx with
      | lst h n _ r =>
        refine .inr (.inl ⟨_, _, _, rfl, rfl, h, by omega, by omega, ?_, fun p hp => ?_⟩)
        · rw [r.len]
          have h2 := okLst_len f
          rw [List.length_flatten] at h2
          simp at h2
          rw [Nat.mul_comm]
          exact lim_le h2
        · exact newLst (Q := Q) ok hp (r.flat _) f q
    · cases f
  · split at f
    · rename_i hc
      cases ry
      cases rx with
      | tup h r =>
        refine .inr (.inr ⟨_, _, _, rfl, rfl, h, ?_, hc.1, hc.2.1, ?_, fun p ob hp hb => ?_⟩)
        · intro e; subst e; cases r; simp at hc
        · rw [r.len]; exact hc.2.2.1
        · exact newTup (Q := Q) ok hp hb (r.flat _) f q
    · cases f
  · cases f
def opCmp (p : Int → Int → Bool) : D → D → Sto → Option (D × Sto)
  | .int i, .int j, S => some (.bl (p i j), S)
  | _, _, _ => none
theorem rule_cmp {K : PySem.W.Frag} {T : List Addr} {p : Int → Int → Bool} : Rule2 K T (rI0 fun i j => .bl (p i j)) (opCmp p) := by
  intro Z H m S x y a b z S' Q ok rx ry f q
  unfold opCmp at f
  split at f
  · cases rx; cases ry; cases f
    exact ⟨_, _, rfl, rfl, q _ H m Ext.refl ok (.bl _)⟩
  · cases f
def eqS : D → D → Option Bool
  | .int i, .int j => some (decide (i = j))
  | .str i, .str j => some (decide (i = j))
  | .bl i, .bl j => some (decide (i = j))
  | .non, .non => some true
  | .non, .int _ | .int _, .non | .non, .bl _ | .bl _, .non | .non, .str _ | .str _, .non | .int _, .str _ | .str _, .int _ | .bl _, .str _ | .str _, .bl _ => some false
  | _, _ => none
def eqP (S : Sto) (x y : D) : Option Bool := (pyOf S x).bind fun p => (pyOf S y).bind fun q => if SeqAt.shaped p && SeqAt.shaped q then some (PyData.eqv p q) else none
def eqD (S : Sto) (x y : D) : Option Bool := match eqS x y with | some b => some b | none => eqP S x y
def opEq (neg : Bool) : D → D → Sto → Option (D × Sto) := fun x y S => (eqD S x y).map fun b => (.bl (if neg then !b else b), S)
theorem eqS_ok {K : PySem.W.Frag × List Addr} {H : Hp} {m : List Addr} {x y : V} {c d : D} {b : Bool} (rx : Rep K H m x c) (ry : Rep K H m y d) (f : eqS c d = some b) : scal x y = true ∧ decide (x = y) = b := by
  unfold eqS at f
  split at f <;> first
    | (cases f; cases rx; cases ry; exact ⟨rfl, by simp⟩)
    | (cases f; cases rx; cases ry; exact ⟨rfl, rfl⟩)
    | cases f
theorem rule_eq {K : PySem.W.Frag} {T : List Addr} : Rule2 K T (rOr rEq (rEqD K)) (opEq false) := by
  intro Z H m S x y a b z S' Q ok rx ry f q
  unfold opEq eqD at f
  obtain ⟨c, e, f⟩ := Option.map_eq_some_iff.mp f
  cases f
  split at e
  · rename_i e'
    cases e
    obtain ⟨h1, h2⟩ := eqS_ok rx ry e'
    exact .inl ⟨h1, by rw [h2]; exact q _ H m Ext.refl ok (.bl _)⟩
  · unfold eqP at e
    obtain ⟨p, e1, e⟩ := Option.bind_eq_some_iff.mp e
    obtain ⟨p', e2, e⟩ := Option.bind_eq_some_iff.mp e
    split at e
    · rename_i hs
      cases e
      simp only [Bool.and_eq_true] at hs
      exact .inr ⟨p, p', pyOf_ok ok rx e1, pyOf_ok ok ry e2, hs.1, hs.2, q _ H m Ext.refl ok (.bl _)⟩
    · cases e
theorem rule_ne {K : PySem.W.Frag} {T : List Addr} : Rule2 K T (rOr rNe (rNeD K)) (opEq true) := by
  intro Z H m S x y a b z S' Q ok rx ry f q
  unfold opEq eqD at f
  obtain ⟨c, e, f⟩ := Option.map_eq_some_iff.mp f
  cases f
  split at e
  · rename_i e'
    cases e
    obtain ⟨h1, h2⟩ := eqS_ok rx ry e'
    exact .inl ⟨h1, by rw [h2]; exact q _ H m Ext.refl ok (.bl _)⟩
  · unfold eqP at e
    obtain ⟨p, e1, e⟩ := Option.bind_eq_some_iff.mp e
    obtain ⟨p', e2, e⟩ := Option.bind_eq_some_iff.mp e
    split at e
    · rename_i hs
      cases e
      simp only [Bool.and_eq_true] at hs
      exact .inr ⟨p, p', pyOf_ok ok rx e1, pyOf_ok ok ry e2, hs.1, hs.2, q _ H m Ext.refl ok (.bl _)⟩
    · cases e
def isNon : D → Bool
  | .non => true
  | _ => false
def opIsN (neg : Bool) : D → D → Sto → Option (D × Sto)
  | x, .non, S => some (.bl (if neg then !isNon x else isNon x), S)
  | _, _, _ => none
theorem isN_ok {K : PySem.W.Frag × List Addr} {H : Hp} {m : List Addr} {x : V} {c : D} (r : Rep K H m x c) : decide (x = .non) = isNon c := by
  cases r <;> simp [isNon]
theorem rule_isN {K : PySem.W.Frag} {T : List Addr} : Rule2 K T (fun x y H Q => y = .non ∧ Q (.bl (decide (x = .non))) H) (opIsN false) := by
  intro Z H m S x y a b z S' Q ok rx ry f q
  unfold opIsN at f
  split at f
  · cases f
    cases ry
    exact ⟨rfl, by rw [isN_ok rx]; exact q _ H m Ext.refl ok (.bl _)⟩
  · cases f
def flatD : D → Bool
  | .non | .bl _ | .int _ | .str _ => true
  | _ => false
def eqF : D → D → Bool
  | .non, .non => true
  | .bl a, .bl b => a == b
  | .bl a, .int b => (if a then 1 else 0) == b
  | .int a, .bl b => a == (if b then 1 else 0)
  | .int a, .int b => a == b
  | .str a, .str b => a == b
  | _, _ => false
def seqD (S : Sto) : D → Option (List D)
  | .tup xs => some xs
  | .lst xs => some xs
  | .scr xs => some xs
  | .loc n => match S[n]? with | some (.lst xs) => some xs | _ => none
  | _ => none
theorem seqD_ok {K : PySem.W.Frag × List Addr} {T : List Addr} {H : Hp} {m : List Addr} {S : Sto} {v : V} {d : D} {ds : List D} (ok : Ok K T H m S) (r : Rep K H m v d) (e : seqD S d = some ds) :
    ∃ a xs, v = .ref a ∧ (SqL K.1 H a xs ∨ SqT K.1 H a xs) ∧ Reps K H m xs ds := by
  unfold seqD at e
  split at e
  · cases e
    cases r with
    | tup h rs => exact ⟨_, _, rfl, .inr h, rs⟩
  · cases e
    cases r with
    | lst h n _ rs => exact ⟨_, _, rfl, .inl (SqL.of h), rs⟩
  · cases e
    cases r with
    | scr h n _ rs => exact ⟨_, _, rfl, .inl (.inl h), rs⟩
    | scrK h rs =>
      refine ⟨_, _, rfl, .inl (.inr ?_), rs⟩
      rcases h with (h | ⟨o, h⟩) | h
      · cases h
      · cases h
      · exact h
  · split at e
    · rename_i es
      cases e
      cases r with
      | loc h =>
        obtain ⟨xs, q, rs⟩ := ok.lst _ _ _ h es
        exact ⟨_, _, rfl, .inl (SqL.of q), rs⟩
    · cases e
  · cases e
theorem flat_ok {K : PySem.W.Frag × List Addr} {H : Hp} {m : List Addr} {x : V} {c : D} (r : Rep K H m x c) (h : flatD c = true) : flatV x = true := by
  cases r <;> first | rfl | (simp [flatD] at h)
theorem eqF_ok {K : PySem.W.Frag × List Addr} {H : Hp} {m : List Addr} {x y : V} {c d : D} (rx : Rep K H m x c) (ry : Rep K H m y d) : eqV x y = eqF c d := by
  cases rx <;> cases ry <;> rfl
theorem flats_ok {K : PySem.W.Frag × List Addr} {H : Hp} {m : List Addr} : ∀ {xs : List V} {cs : List D}, Reps K H m xs cs → cs.all flatD = true → xs.all flatV = true
  | _, _, .nil, _ => rfl
  | _, _, .cons r t, h => by
    simp only [List.all_cons, Bool.and_eq_true] at h ⊢
    exact ⟨flat_ok r h.1, flats_ok t h.2⟩
theorem inF_ok {K : PySem.W.Frag × List Addr} {H : Hp} {m : List Addr} {x : V} {c : D} (r : Rep K H m x c) : ∀ {xs : List V} {cs : List D}, Reps K H m xs cs → inV x xs = cs.any (eqF · c)
  | _, _, .nil => rfl
  | _, _, .cons q t => by
    have ih := inF_ok r t
    unfold inV at ih ⊢
    simp only [List.any_cons, ih, eqF_ok q r]
def inP (S : Sto) (x y : D) : Option Bool := (pyOf S x).bind fun p => (pyOf S y).bind fun q => match q with
  | .list ds => if SeqAt.shaped p && SeqAt.shaped q then some (ds.any fun z => PyData.eqv z p) else none
  | .tuple ds => if SeqAt.shaped p && SeqAt.shaped q then some (ds.any fun z => PyData.eqv z p) else none
  | _ => none
def inD (S : Sto) (x y : D) : Option Bool := (seqD S y).bind fun ys => if flatD x && ys.all flatD then some (ys.any (eqF · x)) else inP S x y
def opIn (neg : Bool) : D → D → Sto → Option (D × Sto) := fun x y S => (inD S x y).map fun b => (.bl (if neg then !b else b), S)
/-- in a tuple of data -/
def rInT (K : PySem.W.Frag) (neg : Bool) : R2 := fun x y H Q => ∃ d ds, Dp K H x d ∧ Dp K H y (.tuple ds) ∧ SeqAt.shaped d = true ∧ SeqAt.shaped (.tuple ds) = true ∧
  Q (.bl (if neg then !(ds.any fun z => PyData.eqv z d) else ds.any fun z => PyData.eqv z d)) H
theorem inT_any {X : Cx} {pins : List (Addr × Obj)} {σ : L2.St} {H : Hp} {s : Shared} {x y : V} {v u : Value} {d : PyData} {ds : List PyData} (I : Inv X pins σ H s) (rx : RelV x v) (ry : RelV y u) (hd : Dp X.K H x d) (he : Dp X.K H y (.tuple ds))
    (sd : SeqAt.shaped d = true) (se : SeqAt.shaped (.tuple ds) = true) (hu : X.A.units + 65 < cLine) :
    ∃ (a : Addr) (its : List Value) (e : Value → Bool), u = .ref a ∧ s.heap.IsTuple a its.toArray ∧ (∀ y, y ∈ its.toArray → SeqAt.EqAt X.A.in1 s y v (e y)) ∧ its.toArray.any e = ds.any fun z => PyData.eqv z d := by
  obtain ⟨as, r1⟩ := Dp.reads I d x v hd rx
  cases he with
  | tup hs ha =>
    cases ry
    obtain ⟨its, rv, pl, hz⟩ := I.tuple hs
    obtain ⟨bs, r2⟩ := Dp.readsAll I ds _ its ha rv
    have h1 : PyData.canLayAll0 ds = true := SeqAt.canLay_of_shaped se
    refine ⟨_, its, fun z => PyData.eqv (SeqAt.readOf s.heap z) d, rfl, pl, SeqAt.items_eqAt (show ReadsAll s.heap its.toArray.toList ds bs by simpa using r2) r1 h1 (SeqAt.canLay_of_shaped sd) ?_, ?_⟩
    · have h2 := SeqAt.depth_of_shaped sd
      have h3 : min (PyData.depthAll ds) d.depth ≤ d.depth := Nat.min_le_right _ _
      omega
    · have hm := SeqAt.readsAll_map ds its bs h1 r2
      rw [← hm, List.any_map]
      simp [Function.comp_def]
theorem op_inT {X : Cx} (hu : X.A.units + 65 < cLine) : OpR X (compareOp .In) (rInT X.K false) := by
  intro pins s σ H x y v u Q I rx ry h
  obtain ⟨d, ds, hd, he, sd, se, q⟩ := h
  obtain ⟨a, its, e, rfl, pl, h1, h2⟩ := inT_any I rx ry hd he sd se hu
  exact SeqAt.in_tupleAt e pl h1 ⟨.bl _, H, I, rfl, by rw [h2]; exact q⟩
theorem op_notInT {X : Cx} (hu : X.A.units + 65 < cLine) : OpR X (compareOp .NotIn) (rInT X.K true) := by
  intro pins s σ H x y v u Q I rx ry h
  obtain ⟨d, ds, hd, he, sd, se, q⟩ := h
  obtain ⟨a, its, e, rfl, pl, h1, h2⟩ := inT_any I rx ry hd he sd se hu
  exact SeqAt.notIn_tupleAt e pl h1 ⟨.bl _, H, I, rfl, by rw [h2]; exact q⟩
theorem rule_in {K : PySem.W.Frag} {T : List Addr} : Rule2 K T (rOr (rIn K false) (rOr (rInD K) (rInT K false))) (opIn false) := by
  intro Z H m S x y a b z S' Q ok rx ry f q
  unfold opIn inD at f
  obtain ⟨c, e, f⟩ := Option.map_eq_some_iff.mp f
  cases f
  obtain ⟨ys, e1, e⟩ := Option.bind_eq_some_iff.mp e
  split at e
  · rename_i hs
    cases e
    simp only [Bool.and_eq_true] at hs
    obtain ⟨p, xs, rfl, hq, rs⟩ := seqD_ok ok ry e1
    refine .inl ⟨p, xs, rfl, hq, flat_ok rx hs.1, flats_ok rs hs.2, ?_⟩
    rw [inF_ok rx rs]
    exact q _ H m Ext.refl ok (.bl _)
  · unfold inP at e
    obtain ⟨p, e2, e⟩ := Option.bind_eq_some_iff.mp e
    obtain ⟨p', e3, e⟩ := Option.bind_eq_some_iff.mp e
    have d1 := pyOf_ok ok rx e2
    have d2 := pyOf_ok ok ry e3
    split at e
    · split at e
      · rename_i hs
        cases e
        simp only [Bool.and_eq_true] at hs
        exact .inr (.inl ⟨p, _, d1, d2, hs.1, hs.2, q _ H m Ext.refl ok (.bl _)⟩)
      · cases e
    · split at e
      · rename_i hs
        cases e
        simp only [Bool.and_eq_true] at hs
        exact .inr (.inr ⟨p, _, d1, d2, hs.1, hs.2, q _ H m Ext.refl ok (.bl _)⟩)
      · cases e
    · cases e
theorem rule_notIn {K : PySem.W.Frag} {T : List Addr} : Rule2 K T (rOr (rIn K true) (rOr (rNotInD K) (rInT K true))) (opIn true) := by
  intro Z H m S x y a b z S' Q ok rx ry f q
  unfold opIn inD at f
  obtain ⟨c, e, f⟩ := Option.map_eq_some_iff.mp f
  cases f
  obtain ⟨ys, e1, e⟩ := Option.bind_eq_some_iff.mp e
  split at e
  · rename_i hs
    cases e
    simp only [Bool.and_eq_true] at hs
    obtain ⟨p, xs, rfl, hq, rs⟩ := seqD_ok ok ry e1
    refine .inl ⟨p, xs, rfl, hq, flat_ok rx hs.1, flats_ok rs hs.2, ?_⟩
    rw [inF_ok rx rs]
    exact q _ H m Ext.refl ok (.bl _)
  · unfold inP at e
    obtain ⟨p, e2, e⟩ := Option.bind_eq_some_iff.mp e
    obtain ⟨p', e3, e⟩ := Option.bind_eq_some_iff.mp e
    have d1 := pyOf_ok ok rx e2
    have d2 := pyOf_ok ok ry e3
    split at e
    · split at e
      · rename_i hs
        cases e
        simp only [Bool.and_eq_true] at hs
        exact .inr (.inl ⟨p, _, d1, d2, hs.1, hs.2, q _ H m Ext.refl ok (.bl _)⟩)
      · cases e
    · split at e
      · rename_i hs
        cases e
        simp only [Bool.and_eq_true] at hs
        exact .inr (.inr ⟨p, _, d1, d2, hs.1, hs.2, q _ H m Ext.refl ok (.bl _)⟩)
      · cases e
    · cases e
def valD (ks : List Key) (ds : List D) (k : Key) : Option D := ((ks.zip ds).find? fun kv => decide (kv.1 = k)).map (·.2)
def keyOf : D → Option Key
  | .int i => some (.inl i)
  | .str x => some (.inr x)
  | _ => none
def dicD (S : Sto) : D → Option (List Key × List D)
  | .dic ks ds => some (ks, ds)
  | .loc n => match S[n]? with | some (.dic ks ds) => some (ks, ds) | _ => none
  | _ => none
def opIx : D → D → Sto → Option (D × Sto) := fun x i S => match seqD S x, i with
  | some xs, .int k => (atI xs k).map fun d => (d, S)
  | _, _ => match x, i with
    | .str z, .int k => if z.length ≤ lim then (atI z.cps.toList k).map fun c => (.str ⟨#[c]⟩, S) else none
    | _, _ => (dicD S x).bind fun p => (keyOf i).bind fun k => (valD p.1 p.2 k).map fun d => (d, S)
theorem atI_reps {K : PySem.W.Frag × List Addr} {H : Hp} {m : List Addr} {xs : List V} {ds : List D} {k : Int} {d : D} (r : Reps K H m xs ds) (e : atI ds k = some d) : ∃ v, atI xs k = some v ∧ Rep K H m v d := by
  unfold atI at e ⊢
  obtain ⟨j, e1, e2⟩ := Option.bind_eq_some_iff.mp e
  obtain ⟨v, e3, r'⟩ := r.get e2
  exact ⟨v, by rw [r.len, e1]; exact e3, r'⟩
def rDG : R2 := fun x y H Q => ∃ a v, x = .ref a ∧ DGet H a y (some v) ∧ Q v H
theorem valV_reps {K : PySem.W.Frag × List Addr} {H : Hp} {m : List Addr} {k : Key} {d : D} : ∀ {kvs : List (Key × V)} {ds : List D}, Reps K H m (kvs.map (·.2)) ds → valD (kvs.map (·.1)) ds k = some d → ∃ v, valV kvs k = some v ∧ Rep K H m v d
  | [], _, r, e => by cases r; simp [valD] at e
  | (k', w) :: kvs, [], r, e => by cases r
  | (k', w) :: kvs, d' :: ds, r, e => by
    cases r with
    | cons r1 rs =>
      by_cases h : k' = k
      · subst h
        simp [valD] at e
        subst e
        exact ⟨w, by simp [valV], r1⟩
      · have e' : valD (kvs.map (·.1)) ds k = some d := by
          simpa [valD, h] using e
        obtain ⟨v, e1, r2⟩ := valV_reps rs e'
        refine ⟨v, ?_, r2⟩
        simpa [valV, h] using e1
theorem dicD_ok {K : PySem.W.Frag × List Addr} {T : List Addr} {H : Hp} {m : List Addr} {S : Sto} {v : V} {d : D} {ks : List Key} {ds : List D} (ok : Ok K T H m S) (r : Rep K H m v d) (e : dicD S d = some (ks, ds)) :
    ∃ a kvs, v = .ref a ∧ Rd H a (.dK kvs) ∧ kvs.map (·.1) = ks ∧ Reps K H m (kvs.map (·.2)) ds := by
  unfold dicD at e
  split at e
  · cases e
    cases r with
    | dic h n _ ek rs => exact ⟨_, _, rfl, h, ek, rs⟩
  · split at e
    · rename_i es
      cases e
      cases r with
      | loc h =>
        obtain ⟨kvs, q, ek, rs⟩ := ok.dic _ _ _ _ h es
        exact ⟨_, _, rfl, .inl q, ek, rs⟩
    · cases e
  · cases e
end Vw
set_option maxRecDepth 100000
set_option maxHeartbeats 4000000
namespace Vw
open PySem PySem.Spec L2
abbrev RC := List V → Hp → VK → Prop
abbrev OpC := List D → Sto → Option (D × Sto)
def RuleC (K : PySem.W.Frag) (T : List Addr) (r : RC) (op : OpC) : Prop :=
  ∀ (Z : List Addr) (H : Hp) (m : List Addr) (S : Sto) (xs : List V) (cs : List D) (z : D) (S' : Sto) (Q : VK), Ok (K, Z) T H m S → Reps (K, Z) H m xs cs → op cs S = some (z, S') →
    (∀ v H' m', Ext T H m H' m' → Ok (K, Z) T H' m' S' → Rep (K, Z) H' m' v z → Q v H') → r xs H Q
def dCall (op : OpC) (fa : DA) : DE := fun G S => (fa G S).bind fun p => op p.1 p.2
theorem rCall {X : Cx} {T : List Addr} {e : Expr} {r : RC} {op : OpC} {fa : DA} (h : PE X e (tCB r (tA X.K T fa))) (ro : RuleC X.K T r op) : PE X e (tD X.K T (dCall op fa)) := by
  refine peImp h fun σ H Q ⟨Z, G, S, m, d, S', ok, en, f, q⟩ => ?_
  unfold dCall at f
  obtain ⟨⟨x, S1⟩, e1, f⟩ := Option.bind_eq_some_iff.mp f
  refine tA.go ok en e1 fun v H1 m1 x1 o1 en1 r1 => ?_
  exact ro Z H1 m1 S1 v x d S' Q o1 r1 f fun w H3 m3 x3 o3 r3 => q w H3 m3 (x1.trans x3) o3 r3
theorem one_inv {K : PySem.W.Frag × List Addr} {H : Hp} {m : List Addr} {xs : List V} {c : D} (r : Reps K H m xs [c]) : ∃ x, xs = [x] ∧ Rep K H m x c := by
  cases r with
  | cons r t => cases t; exact ⟨_, rfl, r⟩
theorem two_inv {K : PySem.W.Frag × List Addr} {H : Hp} {m : List Addr} {xs : List V} {c d : D} (r : Reps K H m xs [c, d]) : ∃ x y, xs = [x, y] ∧ Rep K H m x c ∧ Rep K H m y d := by
  cases r with
  | cons r t =>
    obtain ⟨y, rfl, r2⟩ := one_inv t
    exact ⟨_, _, rfl, r, r2⟩
def opLen : OpC := fun cs S => match cs with
  | [c] => match seqD S c with
    | some xs => some (.int xs.length, S)
    | none => match c with
      | .str z => if z.length ≤ lim then some (.int z.length, S) else none
      | _ => none
  | _ => none
theorem rule_len {K : PySem.W.Frag} {T : List Addr} : RuleC K T (fun xs H Q => ∃ x n, xs = [x] ∧ LenV K x H n ∧ Q (.int n) H) opLen := by
  intro Z H m S xs cs z S' Q ok r f q
  unfold opLen at f
  split at f
  · obtain ⟨x, rfl, rx⟩ := one_inv r
    split at f
    · rename_i ds e
      cases f
      obtain ⟨p, ys, rfl, hq, rs⟩ := seqD_ok ok rx e
      refine ⟨_, ds.length, rfl, ?_, q _ H m Ext.refl ok (.int _)⟩
      rcases hq with hq | hq
      · exact .inl ⟨ys, hq, rs.len.symm⟩
      · exact .inr ⟨ys, hq, rs.len.symm⟩
    · split at f
      · split at f
        · rename_i hl
          cases f
          cases rx
          exact ⟨_, _, rfl, ⟨lim_le hl, rfl⟩, q _ H m Ext.refl ok (.int _)⟩
        · cases f
      · cases f
  · cases f
def opAbs : OpC := fun cs S => match cs with
  | [.int i] => some (.int (if i < 0 then -i else i), S)
  | _ => none
theorem rule_abs {K : PySem.W.Frag} {T : List Addr} : RuleC K T (fun xs H Q => ∃ i, xs = [.int i] ∧ Q (.int (if i < 0 then -i else i)) H) opAbs := by
  intro Z H m S xs cs z S' Q ok r f q
  unfold opAbs at f
  split at f
  · obtain ⟨x, rfl, rx⟩ := one_inv r
    cases rx; cases f
    exact ⟨_, rfl, q _ H m Ext.refl ok (.int _)⟩
  · cases f
def opInt : OpC := fun cs S => match cs with
  | [.int i] => some (.int i, S)
  | [.bl b] => some (.int (if b then 1 else 0), S)
  | _ => none
theorem rule_int {K : PySem.W.Frag} {T : List Addr} : RuleC K T (fun xs H Q => (∃ i, xs = [.int i] ∧ Q (.int i) H) ∨ ∃ k, xs = [.bl k] ∧ Q (.int (if k then 1 else 0)) H) opInt := by
  intro Z H m S xs cs z S' Q ok r f q
  unfold opInt at f
  split at f
  · obtain ⟨x, rfl, rx⟩ := one_inv r
    cases rx; cases f
    exact .inl ⟨_, rfl, q _ H m Ext.refl ok (.int _)⟩
  · obtain ⟨x, rfl, rx⟩ := one_inv r
    cases rx; cases f
    exact .inr ⟨_, rfl, q _ H m Ext.refl ok (.int _)⟩
  · cases f
def opTuple : OpC := fun cs S => match cs with
  | [x] => (seqD S x).bind fun ds => okTup ds S
  | _ => none
theorem rule_tuple {K : PySem.W.Frag} {T : List Addr} : RuleC K T (fun xs H Q => ∃ p ys, xs = [.ref p] ∧ ((SqL K H p ys ∧ MadeT Q ys H) ∨ (SqT K H p ys ∧ Q (.ref p) H))) opTuple := by
  intro Z H m S xs cs z S' Q ok r f q
  unfold opTuple at f
  split at f
  · obtain ⟨x, rfl, rx⟩ := one_inv r
    obtain ⟨ds, e, f⟩ := Option.bind_eq_some_iff.mp f
    obtain ⟨p, ys, rfl, hq, rs⟩ := seqD_ok ok rx e
    refine ⟨_, ys, rfl, ?_⟩
    rcases hq with hq | hq
    · exact .inl ⟨hq, fun l ob hl hb => newTup (Q := Q) ok hl hb rs f q⟩
    · refine .inr ⟨hq, ?_⟩
      unfold okTup at f
      split at f
      · cases f
        exact q _ H m Ext.refl ok (.tup hq rs)
      · cases f
  · cases f
def lstD (S : Sto) : D → Option (List D)
  | .lst xs => some xs
  | .loc n => match S[n]? with | some (.lst xs) => some xs | _ => none
  | _ => none
theorem lstD_ok {K : PySem.W.Frag × List Addr} {T : List Addr} {H : Hp} {m : List Addr} {S : Sto} {v : V} {d : D} {ds : List D} (ok : Ok K T H m S) (r : Rep K H m v d) (e : lstD S d = some ds) :
    ∃ a xs, v = .ref a ∧ H a = some (.lst xs) ∧ Reps K H m xs ds := by
  unfold lstD at e
  split at e
  · cases e
    cases r with
    | lst h n _ rs => exact ⟨_, _, rfl, h, rs⟩
  · split at e
    · rename_i es
      cases e
      cases r with
      | loc h =>
        obtain ⟨xs, q, rs⟩ := ok.lst _ _ _ h es
        exact ⟨_, _, rfl, q, rs⟩
    · cases e
  · cases e
def showable (p : PyData) : Bool := p.showable && !p.hasDict && decide (p.depth ≤ 60) && decide (p.shown.length ≤ lim)
def opRepr : OpC := fun cs S => match cs with
  | [x] => (pyOf S x).bind fun p => if showable p = true then some (.str p.shown, S) else none
  | _ => none
def rRepr (K : PySem.W.Frag) : RC := fun xs H Q => ∃ x p, xs = [x] ∧ Dp K H x p ∧ showable p = true ∧ Q (.str p.shown) H
theorem call_repr {X : Cx} (hc : Clr X.A) (hu : X.A.units + 64 < cLine) : CallR X (.builtin "repr") (rRepr X.K) := by
  intro pins s σ H xs us Q I rv h
  obtain ⟨x, p, rfl, hd, hs, q⟩ := h
  obtain ⟨u, rfl, rx⟩ := vals1 rv
  unfold showable at hs
  simp only [Bool.and_eq_true, decide_eq_true_eq, Bool.not_eq_true'] at hs
  obtain ⟨⟨⟨h1, h2⟩, h3⟩, h4⟩ := hs
  obtain ⟨as, rd⟩ := Dp.reads I p x u hd rx
  have fin : ∀ h' w tk, (∀ b o, s.heap.get? b = some o → h'.get? b = some o) → EP X pins σ Q (.str p.shown w) { s with heap := h', toks := tk } :=
    fun h' w tk hk => ⟨.str p.shown, H, I.kept (t' := tk) hk, ⟨_, rfl⟩, q⟩
  cases hd with
  | non => cases rx; exact PySem.P.repr_of_none (fin s.heap _ _ fun _ _ e => e)
  | bl b => cases rx; exact PySem.P.repr_of_bool (fin s.heap _ _ fun _ _ e => e)
  | int i => obtain ⟨t, rfl⟩ := rx; exact PySem.P.repr_of_int (by simpa [PyData.showable] using h1) (fin s.heap _ _ fun _ _ e => e)
  | str z => obtain ⟨t, rfl⟩ := rx; exact PySem.P.repr_of_str (fin s.heap _ _ fun _ _ e => e) (lim_le h4)
  | lst a b => cases rx; exact repr_of_reads' rd h1 (fun e => by rw [h2] at e; cases e) hc (by omega) (fun _ _ e => e) fin (lim_le h4)
  | tup a b => cases rx; exact repr_of_reads' rd h1 (fun e => by rw [h2] at e; cases e) hc (by omega) (fun _ _ e => e) fin (lim_le h4)
theorem rule_repr {K : PySem.W.Frag} {T : List Addr} : RuleC K T (rRepr K) opRepr := by
  intro Z H m S xs cs z S' Q ok r f q
  unfold opRepr at f
  split at f
  · obtain ⟨x, rfl, rx⟩ := one_inv r
    obtain ⟨p, e, f⟩ := Option.bind_eq_some_iff.mp f
    split at f
    · rename_i hs
      cases f
      exact ⟨_, p, rfl, pyOf_ok ok rx e, hs, q _ H m Ext.refl ok (.str _)⟩
    · cases f
  · cases f
abbrev RM := V → List V → Hp → VK → Prop
abbrev OpM := D → List D → Sto → Option (D × Sto)
def RuleM (K : PySem.W.Frag) (T : List Addr) (r : RM) (op : OpM) : Prop :=
  ∀ (Z : List Addr) (H : Hp) (m : List Addr) (S : Sto) (x : V) (c : D) (xs : List V) (cs : List D) (z : D) (S' : Sto) (Q : VK), Ok (K, Z) T H m S → Rep (K, Z) H m x c → Reps (K, Z) H m xs cs → op c cs S = some (z, S') →
    (∀ v H' m', Ext T H m H' m' → Ok (K, Z) T H' m' S' → Rep (K, Z) H' m' v z → Q v H') → r x xs H Q
def tyD (T : String) (S : Sto) (d : D) : Bool := match d with
  | .str _ => T == "str"
  | d => T == "list" && (lstD S d).isSome
theorem tyD_ok {K : PySem.W.Frag × List Addr} {T : List Addr} {H : Hp} {m : List Addr} {S : Sto} {v : V} {d : D} {t : String} (ok : Ok K T H m S) (r : Rep K H m v d) (e : tyD t S d = true) : tyV K.1 t v H := by
  unfold tyD at e
  split at e
  · cases r
    exact eq_of_beq e
  · simp only [Bool.and_eq_true] at e
    obtain ⟨ds, h⟩ := Option.isSome_iff_exists.mp e.2
    obtain ⟨a, xs, rfl, hq, _⟩ := lstD_ok ok r h
    exact .inl ⟨eq_of_beq e.1, xs, SqL.of hq⟩
def dMeth (t : String) (op : OpM) (fo : DE) (fa : DA) : DE := fun G S => (fo G S).bind fun p => if tyD t p.2 p.1 = true then (fa G p.2).bind fun q => op p.1 q.1 q.2 else none
theorem rMeth {X : Cx} {T : List Addr} {e : Expr} {t : String} {r : RM} {op : OpM} {fo : DE} {fa : DA} (h : PE X e (tBM X.K t r (tD X.K T fo) (tA X.K T fa))) (ro : RuleM X.K T r op) : PE X e (tD X.K T (dMeth t op fo fa)) := by
  refine peImp h fun σ H Q ⟨Z, G, S, m, d, S', ok, en, f, q⟩ => ?_
  unfold dMeth at f
  obtain ⟨⟨x, S1⟩, e1, f⟩ := Option.bind_eq_some_iff.mp f
  split at f
  · rename_i ht
    obtain ⟨⟨y, S2⟩, e2, f⟩ := Option.bind_eq_some_iff.mp f
    refine tD.go ok en e1 fun v H1 m1 x1 o1 en1 r1 => ⟨tyD_ok o1 r1 ht, ?_⟩
    refine tA.go o1 en1 e2 fun us H2 m2 x2 o2 en2 r2 => ?_
    exact ro Z H2 m2 S2 v x us y d S' Q o2 (r1.mono x2 o1) r2 f fun w H3 m3 x3 o3 r3 => q w H3 m3 ((x1.trans x2).trans x3) o3 r3
  · cases f
/-- a cell that is a list -/
theorem locL {K : PySem.W.Frag × List Addr} {T : List Addr} {H : Hp} {m : List Addr} {S : Sto} {v : V} {n : Nat} {ds : List D} (ok : Ok K T H m S) (r : Rep K H m v (.loc n)) (e : S[n]? = some (Cell.lst ds)) :
    ∃ a xs, v = .ref a ∧ m[n]? = some a ∧ H a = some (.lst xs) ∧ Reps K H m xs ds := by
  cases r with
  | loc h =>
    obtain ⟨xs, q, rs⟩ := ok.lst _ _ _ h e
    exact ⟨_, xs, rfl, h, q, rs⟩
def opAppend : OpM := fun c cs S => match c, cs with
  | .loc n, [y] => match S[n]? with
    | some (.lst ds) => if ds.length < lim then some (.non, S.set n (Cell.lst (ds ++ [y]))) else none
    | _ => none
  | _, _ => none
theorem rule_append {K : PySem.W.Frag} {T : List Addr} : RuleM K T rAppend opAppend := by
  intro Z H m S x c xs cs z S' Q ok rx r f q
  unfold opAppend at f
  split at f
  · split at f
    · rename_i ds es
      split at f
      · rename_i hl
        cases f
        obtain ⟨y, rfl, ry⟩ := one_inv r
        obtain ⟨a, vs, rfl, hm, hq, rs⟩ := locL ok rx es
        refine ⟨_, _, _, rfl, rfl, hq, ?_, ?_⟩
        · rw [rs.len]; exact lim_lt (Nat.le_of_lt hl)
        · exact q _ _ m (Ext.put ok hm) (ok.putLst hm (rs.app (.one ry))) .non
      · cases f
    · cases f
  · cases f
def opPopAt : OpM := fun c cs S => match c, cs with
  | .loc n, [.int i] => match S[n]? with
    | some (.lst ds) => if 0 ≤ i ∧ i < 1000000000 then (match ds[i.toNat]? with | some d => some (d, S.set n (Cell.lst (ds.eraseIdx i.toNat))) | none => none) else none
    | _ => none
  | _, _ => none
theorem Reps.erase {K : PySem.W.Frag × List Addr} {H : Hp} {m : List Addr} : ∀ {vs : List V} {ds : List D} (n : Nat), Reps K H m vs ds → Reps K H m (vs.eraseIdx n) (ds.eraseIdx n)
  | _, _, _, .nil => .nil
  | _, _, 0, .cons _ t => t
  | _, _, n + 1, .cons r t => .cons r (t.erase n)
theorem seqIndex_nn {i : Int} {n : Nat} (h : 0 ≤ i) (h2 : i.toNat < n) : seqIndex? i n = some i.toNat := by
  have e : ixN n i = some i.toNat := by
    unfold ixN
    rw [if_pos h, if_pos (by omega)]
  exact (ixN_seq e).1
theorem rule_popAt {K : PySem.W.Frag} {T : List Addr} : RuleM K T rPopAt opPopAt := by
  intro Z H m S x c xs cs z S' Q ok rx r f q
  unfold opPopAt at f
  split at f
  · split at f
    · rename_i ds es
      split at f
      · rename_i hi
        split at f
        · rename_i d ed
          cases f
          obtain ⟨y, rfl, ry⟩ := one_inv r
          cases ry
          obtain ⟨a, vs, rfl, hm, hq, rs⟩ := locL ok rx es
          obtain ⟨v, ev, rv⟩ := rs.get ed
          have hlt := (List.getElem?_eq_some_iff.mp ev).1
          refine ⟨_, _, _, _, _, rfl, rfl, hq, by omega, by omega, seqIndex_nn hi.1 hlt, ev, ?_⟩
          exact q _ _ m (Ext.put ok hm) (ok.putLst hm (rs.erase _)) (rv.mono (Ext.put ok hm) ok)
        · cases f
      · cases f
    · cases f
  · cases f
def opInsert : OpM := fun c cs S => match c, cs with
  | .loc n, [.int i, y] => match S[n]? with
    | some (.lst ds) => if 0 ≤ i ∧ i < 1000000000 ∧ ds.length < lim then some (.non, S.set n (Cell.lst (ds.take i.toNat ++ [y] ++ ds.drop i.toNat))) else none
    | _ => none
  | _, _ => none
theorem rule_insert {K : PySem.W.Frag} {T : List Addr} : RuleM K T (fun x vs H Q => ∃ (l : Addr) (xs : List V) (i : Int) (y : V), x = .ref l ∧ vs = [.int i, y] ∧ H l = some (.lst xs) ∧ xs.length < sizeLine ∧ 0 ≤ i ∧ i < 2 ^ 63 ∧
    Q .non (upd H l (.lst (xs.take i.toNat ++ [y] ++ xs.drop i.toNat)))) opInsert := by
  intro Z H m S x c xs cs z S' Q ok rx r f q
  unfold opInsert at f
  split at f
  · split at f
    · rename_i ds es
      split at f
      · rename_i hi
        cases f
        obtain ⟨u, y, rfl, ru, ry⟩ := two_inv r
        cases ru
        obtain ⟨a, vs, rfl, hm, hq, rs⟩ := locL ok rx es
        refine ⟨_, _, _, _, rfl, rfl, hq, ?_, hi.1, by omega, ?_⟩
        · rw [rs.len]; exact lim_lt (Nat.le_of_lt hi.2.2)
        · exact q _ _ m (Ext.put ok hm) (ok.putLst hm (((rs.take _).app (.one ry)).app (rs.drop _))) .non
      · cases f
    · cases f
  · cases f
end Vw
set_option maxRecDepth 100000
set_option maxHeartbeats 4000000
namespace Vw
open PySem PySem.Spec L2
inductive Fl where
  | nx | rt (d : D) | bk | ct
abbrev DS := Gam → Sto → Option (Fl × Gam × Sto)
/-- what a statement's end hands on -/
def Fin1 (K : PySem.W.Frag × List Addr) (Dn : Ends) (fl : Fl) (G' : Gam) (H' : Hp) (m' : List Addr) : Prop := match fl with
  | .nx => ∀ σ', EnvOk K H' m' σ' G' → Dn.nx σ' H'
  | .rt d => ∀ v, Rep K H' m' v d → Dn.rt v H'
  | .bk => ∀ σ', EnvOk K H' m' σ' G' → Dn.bk σ' H'
  | .ct => ∀ σ', EnvOk K H' m' σ' G' → Dn.ct σ' H'
def sD (K : PySem.W.Frag) (T : List Addr) (f : DS) : TS := fun Dn σ H => ∃ (Z : List Addr) (G : Gam) (S : Sto) (m : List Addr) (fl : Fl) (G' : Gam) (S' : Sto), Ok (K, Z) T H m S ∧ EnvOk (K, Z) H m σ G ∧ f G S = some (fl, G', S') ∧
  ∀ H' m', Ext T H m H' m' → Ok (K, Z) T H' m' S' → Fin1 (K, Z) Dn fl G' H' m'
theorem psImp {X : Cx} {st : Stmt} {t t' : TS} (h : PS X st t) (w : ∀ D σ H, t' D σ H → t D σ H) : PS X st t' :=
  ⟨fun pins s σ H D I q => h.run pins s σ H D I (w D σ H q)⟩
theorem pssImp {X : Cx} {st : List Stmt} {t t' : TS} (h : PSs X st t) (w : ∀ D σ H, t' D σ H → t D σ H) : PSs X st t' :=
  ⟨fun pins s σ H D I q => h.run pins s σ H D I (w D σ H q)⟩
theorem psOr {X : Cx} {st : Stmt} {t t' : TS} (h : PS X st t) (h' : PS X st t') : PS X st (fun D σ H => t D σ H ∨ t' D σ H) :=
  ⟨fun pins s σ H D I q => q.elim (h.run pins s σ H D I) (h'.run pins s σ H D I)⟩
section
variable {X : Cx} {T : List Addr} {e : Expr} {st : Stmt} {rest : List Stmt}
theorem sD.go {K : PySem.W.Frag} {Z : List Addr} {H : Hp} {m : List Addr} {S S' : Sto} {σ : L2.St} {G G' : Gam} {f : DS} {fl : Fl} {Dn : Ends} (ok : Ok (K, Z) T H m S) (en : EnvOk (K, Z) H m σ G) (e : f G S = some (fl, G', S'))
    (h : ∀ H1 m1, Ext T H m H1 m1 → Ok (K, Z) T H1 m1 S' → Fin1 (K, Z) Dn fl G' H1 m1) : sD K T f Dn σ H := ⟨Z, G, S, m, fl, G', S', ok, en, e, h⟩
def dSkip : DS := fun G S => some (.nx, G, S)
theorem rSkip : PSs X [] (sD X.K T dSkip) := by
  refine pssImp pss_nil fun D σ H ⟨Z, G, S, m, fl, G', S', ok, en, f, q⟩ => ?_
  cases f
  exact q H m Ext.refl ok σ en
def dSeq (f g : DS) : DS := fun G S => (f G S).bind fun p => match p.1 with
  | .nx => g p.2.1 p.2.2
  | _ => some p
theorem rSeq {f g : DS} (h1 : PS X st (sD X.K T f)) (h2 : PSs X rest (sD X.K T g)) : PSs X (st :: rest) (sD X.K T (dSeq f g)) := by
  refine pssImp (pss_cons h1 h2) fun D σ H ⟨Z, G, S, m, fl, G', S', ok, en, f, q⟩ => ?_
  unfold dSeq at f
  obtain ⟨⟨fl1, G1, S1⟩, e1, f⟩ := Option.bind_eq_some_iff.mp f
  refine sD.go ok en e1 fun H1 m1 x1 o1 => ?_
  cases fl1 with
  | nx => exact fun σ1 en1 => sD.go o1 en1 f fun H2 m2 x2 o2 => q H2 m2 (x1.trans x2) o2
  | rt d => cases f; exact q H1 m1 x1 o1
  | bk => cases f; exact q H1 m1 x1 o1
  | ct => cases f; exact q H1 m1 x1 o1
def dExpr (f : DE) : DS := fun G S => (f G S).bind fun p => some (.nx, G, p.2)
theorem rExpr {f : DE} {pos : Pos} (h : PE X e (tD X.K T f)) (hs : swapsWith e none pos.line X.env = pure false) : PS X (.Expr e pos) (sD X.K T (dExpr f)) := by
  refine psImp (ps_expr h hs) fun D σ H ⟨Z, G, S, m, fl, G', S', ok, en, f, q⟩ => ?_
  unfold dExpr at f
  obtain ⟨⟨d, S1⟩, e1, f⟩ := Option.bind_eq_some_iff.mp f
  cases f
  exact tD.go ok en e1 fun v H1 m1 x1 o1 en1 r1 => q H1 m1 x1 o1 σ en1
def dRet (f : DE) : DS := fun G S => (f G S).bind fun p => some (.rt p.1, G, p.2)
theorem rRet {f : DE} {pos : Pos} (h : PE X e (tD X.K T f)) : PS X (.Return (some e) pos) (sD X.K T (dRet f)) := by
  refine psImp (ps_ret h) fun D σ H ⟨Z, G, S, m, fl, G', S', ok, en, f, q⟩ => ?_
  unfold dRet at f
  obtain ⟨⟨d, S1⟩, e1, f⟩ := Option.bind_eq_some_iff.mp f
  cases f
  exact tD.go ok en e1 fun v H1 m1 x1 o1 en1 r1 => q H1 m1 x1 o1 v r1
def dIte (t : DT) (f g : DS) : DS := fun G S => (t G S).bind fun p => if p.1 = true then f G p.2 else g G p.2
theorem rIte {c : Expr} {a b : List Stmt} {t : DT} {f g : DS} {pos : Pos} (hc : PT X c (tB X.K T t)) (ha : PSs X a (sD X.K T f)) (hb : PSs X b (sD X.K T g)) : PS X (.If c a b pos) (sD X.K T (dIte t f g)) := by
  refine psImp (ps_if hc ha hb) fun D σ H ⟨Z, G, S, m, fl, G', S', ok, en, f, q⟩ => ?_
  unfold dIte at f
  obtain ⟨⟨b, S1⟩, e1, f⟩ := Option.bind_eq_some_iff.mp f
  refine tB.go ok en e1 fun H1 m1 x1 o1 en1 => ?_
  cases b with
  | true => exact sD.go o1 en1 f fun H2 m2 x2 o2 => q H2 m2 (x1.trans x2) o2
  | false => exact sD.go o1 en1 f fun H2 m2 x2 o2 => q H2 m2 (x1.trans x2) o2
abbrev DG := D → Gam → Sto → Option (Gam × Sto)
abbrev DGs := List D → Gam → Sto → Option (Gam × Sto)
def Sl (I : List Nat) (σ σ' : L2.St) : Prop := σ'.length = σ.length ∧ ∀ j, j ∉ I → σ'[j]? = σ[j]?
theorem Sl.refl {I : List Nat} {σ : L2.St} : Sl I σ σ := ⟨rfl, fun _ _ => rfl⟩
theorem Sl.trans {I : List Nat} {σ σ' σ'' : L2.St} (a : Sl I σ σ') (b : Sl I σ' σ'') : Sl I σ σ'' := ⟨b.1.trans a.1, fun j h => (b.2 j h).trans (a.2 j h)⟩
theorem Sl.set {I : List Nat} {σ : L2.St} {i : Nat} {v : Option V} (h : i ∈ I) : Sl I σ (σ.set i v) := ⟨by simp, fun j hj => List.getElem?_set_ne (fun (z : i = j) => hj (by rw [← z]; exact h))⟩
def gD (K : PySem.W.Frag) (T : List Addr) (I : List Nat) (g : DG) : TG := fun v σ H Q => ∃ (Z : List Addr) (d : D) (G : Gam) (S : Sto) (m : List Addr) (G' : Gam) (S' : Sto), Ok (K, Z) T H m S ∧ EnvOk (K, Z) H m σ G ∧ Rep (K, Z) H m v d ∧ g d G S = some (G', S') ∧
  ∀ σ' H' m', Ext T H m H' m' → Ok (K, Z) T H' m' S' → EnvOk (K, Z) H' m' σ' G' → Sl I σ σ' → Q σ' H'
def gsD (K : PySem.W.Frag) (T : List Addr) (I : List Nat) (g : DGs) : TGs := fun vs σ H Q => ∃ (Z : List Addr) (ds : List D) (G : Gam) (S : Sto) (m : List Addr) (G' : Gam) (S' : Sto), Ok (K, Z) T H m S ∧ EnvOk (K, Z) H m σ G ∧ Reps (K, Z) H m vs ds ∧ g ds G S = some (G', S') ∧
  ∀ σ' H' m', Ext T H m H' m' → Ok (K, Z) T H' m' S' → EnvOk (K, Z) H' m' σ' G' → Sl I σ σ' → Q σ' H'
theorem pgImp {t : Expr} {g g' : TG} (h : PG X t g) (w : ∀ v σ H Q, g' v σ H Q → g v σ H Q) : PG X t g' :=
  ⟨fun pins s σ H v u Q I r q => h.run pins s σ H v u Q I r (w v σ H Q q)⟩
theorem pgsImp {t : List Expr} {g g' : TGs} (h : PGs X t g) (w : ∀ v σ H Q, g' v σ H Q → g v σ H Q) : PGs X t g' :=
  ⟨fun pins s σ H v u Q I r q => h.run pins s σ H v u Q I r (w v σ H Q q)⟩
def dgName (i : Nat) : DG := fun d G S => some (G.set i (some d), S)
theorem rgName {I : List Nat} {i : Nat} {t : Expr} (hi : i ∈ I) (h : PG X t (gName i)) : PG X t (gD X.K T I (dgName i)) := by
  refine pgImp h fun v σ H Q ⟨Z, d, G, S, m, G', S', ok, en, r, f, q⟩ => ?_
  cases f
  exact q _ H m Ext.refl ok (en.set r) (Sl.set hi)
def dgNil : DGs := fun ds G S => match ds with | [] => some (G, S) | _ => none
def dgCons (g : DG) (gs : DGs) : DGs := fun ds G S => match ds with
  | d :: ds => (g d G S).bind fun p => gs ds p.1 p.2
  | [] => none
theorem rgNil {I : List Nat} : PGs X [] (gsD X.K T I dgNil) := by
  refine pgsImp pgs_nil fun v σ H Q ⟨Z, ds, G, S, m, G', S', ok, en, r, f, q⟩ => ?_
  unfold dgNil at f
  split at f
  · cases f; cases r
    exact ⟨rfl, q _ H m Ext.refl ok en Sl.refl⟩
  · cases f
theorem rgCons {I : List Nat} {t : Expr} {ts : List Expr} {g : DG} {gs : DGs} (h : PG X t (gD X.K T I g)) (hs : PGs X ts (gsD X.K T I gs)) (h2 : (assignEach (t :: ts) X.env).map (·.2) = assign t X.env :: (assignEach ts X.env).map (·.2)) : PGs X (t :: ts) (gsD X.K T I (dgCons g gs)) := by
  refine pgsImp (pgs_cons h hs h2) fun v σ H Q ⟨Z, ds, G, S, m, G', S', ok, en, r, f, q⟩ => ?_
  unfold dgCons at f
  split at f
  · rename_i d ds
    obtain ⟨⟨G1, S1⟩, e1, f⟩ := Option.bind_eq_some_iff.mp f
    cases r with
    | cons r1 rs =>
      refine ⟨_, _, rfl, Z, d, G, S, m, G1, S1, ok, en, r1, e1, fun σ1 H1 m1 x1 o1 en1 s1 => ?_⟩
      exact ⟨Z, ds, G1, S1, m1, G', S', o1, en1, rs.mono x1 ok, f, fun σ2 H2 m2 x2 o2 en2 s2 => q σ2 H2 m2 (x1.trans x2) o2 en2 (s1.trans s2)⟩
  · cases f
def dgTup (n : Nat) (gs : DGs) : DG := fun d G S => match d with
  | .tup ds => if ds.length = n then gs ds G S else none
  | _ => none
theorem rgTup {I : List Nat} {t : Expr} {n : Nat} {gs : DGs} (h : PG X t (gTup X.K n (gsD X.K T I gs))) : PG X t (gD X.K T I (dgTup n gs)) := by
  refine pgImp h fun v σ H Q ⟨Z, d, G, S, m, G', S', ok, en, r, f, q⟩ => ?_
  unfold dgTup at f
  split at f
  · split at f
    · rename_i hn
      cases r with
      | tup h rs => exact ⟨_, _, rfl, h, by rw [rs.len]; exact hn, Z, _, G, S, m, G', S', ok, en, rs, f, q⟩
    · cases f
  · cases f
/-- a store into a list or a dict -/
def opPut : D → D → D → Sto → Option Sto := fun o i v S => match o with
  | .loc n => match S[n]? with
    | some (.lst ds) => match i with
      | .int k => match ixN ds.length k with
        | some j => some (S.set n (Cell.lst (ds.set j v)))
        | none => none
      | _ => none
    | some (.dic ks ds) => match keyOf i with
      | some k => if ks.length < lim then some (S.set n (let kv := putK' k v ks ds; Cell.dic kv.1 kv.2)) else none
      | none => none
    | none => none
  | _ => none
where
  putK' (k : Key) (v : D) (ks : List Key) (ds : List D) : List Key × List D :=
    if (ks.any fun x => decide (x = k)) = true then (ks, (ks.zip ds).map fun p => if p.1 = k then v else p.2) else (ks ++ [k], ds ++ [v])
def rPut : V → V → V → Hp → (Hp → Prop) → Prop := fun o i v H Q => rSetL o i v H Q ∨ ∃ a H', o = .ref a ∧ DPut H a i v H' ∧ Q H'
theorem set_dict (hu : X.A.units + 1 < cLine) : PSet X (fun o i v H Q => ∃ a H', o = .ref a ∧ DPut H a i v H' ∧ Q H') := by
  intro pins s σ H o i v ov iv u Q I ro ri rv h
  obtain ⟨a, H', rfl, g, q⟩ := h
  obtain rfl : ov = Value.ref a := ro
  exact d_setItem hu I g ri rv fun s4 I4 => ⟨H', I4, q⟩
theorem set_any (hu : X.A.units + 1 < cLine) : PSet X rPut := by
  intro pins s σ H o i v ov iv u Q I ro ri rv h
  exact h.elim (set_list pins s σ H o i v ov iv u Q I ro ri rv) (set_dict hu pins s σ H o i v ov iv u Q I ro ri rv)
theorem map_fst_if {k : Key} {v : V} (kvs : List (Key × V)) : (kvs.map fun kv => if kv.1 = k then (kv.1, v) else kv).map (·.1) = kvs.map (·.1) := by
  rw [List.map_map]
  apply List.map_congr_left
  intro p _
  simp only [Function.comp]
  split <;> rfl
theorem putK_reps {K : PySem.W.Frag × List Addr} {H : Hp} {m : List Addr} {k : Key} {v : V} {d : D} (rv : Rep K H m v d) {kvs : List (Key × V)} {ds : List D} (r : Reps K H m (kvs.map (·.2)) ds) :
    (putK kvs k v).map (·.1) = (opPut.putK' k d (kvs.map (·.1)) ds).1 ∧ Reps K H m ((putK kvs k v).map (·.2)) (opPut.putK' k d (kvs.map (·.1)) ds).2 := by
  have any_iff : (kvs.any fun kv => decide (kv.1 = k)) = ((kvs.map (·.1)).any fun x => decide (x = k)) := by
    rw [List.any_map]; rfl
  unfold putK opPut.putK'
  by_cases h : ((kvs.map (·.1)).any fun x => decide (x = k)) = true
  · rw [if_pos (any_iff.trans h), if_pos h]
    refine ⟨map_fst_if kvs, ?_⟩
    clear any_iff h
    induction kvs generalizing ds with
    | nil => cases r; exact .nil
    | cons p kvs ih =>
      cases ds with
      | nil => cases r
      | cons d' ds =>
        cases r with
        | cons r1 rs =>
          simp only [List.map_cons, List.zip_cons_cons]
          by_cases hp : p.1 = k
          · simp only [hp, if_true]
            exact .cons rv (ih rs)
          · simp only [hp, if_false]
            exact .cons r1 (ih rs)
  · rw [if_neg (fun z => h (any_iff.symm.trans z)), if_neg h]
    refine ⟨by simp, ?_⟩
    rw [List.map_append]
    exact r.app (.one rv)
theorem put_ok {K : PySem.W.Frag × List Addr} {H : Hp} {m : List Addr} {S S' : Sto} {o i v : V} {co ci cv : D} {Q : Hp → Prop} (ok : Ok K T H m S) (ro : Rep K H m o co) (ri : Rep K H m i ci) (rv : Rep K H m v cv)
    (f : opPut co ci cv S = some S') (q : ∀ H' m', Ext T H m H' m' → Ok K T H' m' S' → Q H') : rPut o i v H Q := by
  unfold opPut at f
  split at f
  · split at f
    · rename_i ds es
      split at f
      · rename_i k
        split at f
        · rename_i j ej
          cases f
          cases ri
          obtain ⟨a, xs, rfl, hm, hq, rs⟩ := locL ok ro es
          refine .inl ⟨_, _, _, j, rfl, rfl, hq, by rw [rs.len]; exact ej, ?_⟩
          exact q _ m (Ext.put ok hm) (ok.putLst hm (rs.set j rv))
        · cases f
      · cases f
    · rename_i ks ds es
      split at f
      · rename_i k ek
        split at f
        · rename_i hl
          cases f
          cases ro with
          | loc hm =>
            obtain ⟨kvs, hq, e1, rs⟩ := ok.dic _ _ _ _ hm es
            subst e1
            obtain ⟨p1, p2⟩ := putK_reps (k := k) rv rs
            have ey : i = kV k := by
              unfold keyOf at ek
              split at ek <;> first | (cases ek; cases ri; rfl) | cases ek
            refine .inr ⟨_, _, rfl, .inl ⟨kvs, k, hq, ey, ?_, rfl⟩, ?_⟩
            · rw [List.length_map] at hl; exact lim_lt (Nat.le_of_lt hl)
            · exact q _ m (Ext.put ok hm) (ok.putDic hm p1 p2)
        · cases f
      · cases f
    · cases f
  · cases f
def dgSub (fo fi : DE) : DG := fun d G S => (fo G S).bind fun p => (fi G p.2).bind fun q => (opPut p.1 q.1 d q.2).map fun S' => (G, S')
theorem rgSub {I : List Nat} {t : Expr} {fo fi : DE} (h : PG X t (gSub (tD X.K T fo) (tD X.K T fi) rPut)) : PG X t (gD X.K T I (dgSub fo fi)) := by
  refine pgImp h fun v σ H Q ⟨Z, d, G, S, m, G', S', ok, en, r, f, q⟩ => ?_
  unfold dgSub at f
  obtain ⟨⟨o, S1⟩, e1, f⟩ := Option.bind_eq_some_iff.mp f
  obtain ⟨⟨i, S2⟩, e2, f⟩ := Option.bind_eq_some_iff.mp f
  obtain ⟨S3, e3, f⟩ := Option.map_eq_some_iff.mp f
  cases f
  refine tD.go ok en e1 fun vo H1 m1 x1 o1 en1 r1 => ?_
  refine tD.go o1 en1 e2 fun vi H2 m2 x2 o2 en2 r2 => ?_
  exact put_ok (T := T) o2 (r1.mono x2 o1) r2 (r.mono (x1.trans x2) ok) e3 fun H3 m3 x3 o3 => q σ H3 m3 ((x1.trans x2).trans x3) o3 (en2.mono x3 o2) Sl.refl
def dAsg (f : DE) (g : DG) : DS := fun G S => (f G S).bind fun p => (g p.1 G p.2).map fun q => (.nx, q.1, q.2)
theorem rAsg {I : List Nat} {f : DE} {g : DG} (h : PS X st (tAsg (tD X.K T f) (gD X.K T I g))) : PS X st (sD X.K T (dAsg f g)) := by
  refine psImp h fun D σ H ⟨Z, G, S, m, fl, G', S', ok, en, f, q⟩ => ?_
  unfold dAsg at f
  obtain ⟨⟨d, S1⟩, e1, f⟩ := Option.bind_eq_some_iff.mp f
  obtain ⟨⟨G2, S2⟩, e2, f⟩ := Option.map_eq_some_iff.mp f
  cases f
  refine tD.go ok en e1 fun v H1 m1 x1 o1 en1 r1 => ?_
  exact ⟨Z, d, G, S1, m1, _, _, o1, en1, r1, e2, fun σ2 H2 m2 x2 o2 en2 _ => q H2 m2 (x1.trans x2) o2 σ2 en2⟩
/-- two names at once, three names at once -/
def dPar (i j : Nat) (fa : DA) : DS := fun G S => (fa G S).bind fun p => match p.1 with
  | [x, y] => some (.nx, (G.set i (some x)).set j (some y), p.2)
  | _ => none
theorem rPar {i j : Nat} {fa : DA} (h : PS X st (tPar i j (tA X.K T fa))) : PS X st (sD X.K T (dPar i j fa)) := by
  refine psImp h fun D σ H ⟨Z, G, S, m, fl, G', S', ok, en, f, q⟩ => ?_
  unfold dPar at f
  obtain ⟨⟨ds, S1⟩, e1, f⟩ := Option.bind_eq_some_iff.mp f
  dsimp only at f
  split at f
  · rename_i x y
    cases f
    refine tA.go ok en e1 fun vs H1 m1 x1 o1 en1 r1 => ?_
    obtain ⟨v, w, rfl, r2, r3⟩ := two_inv r1
    exact ⟨_, _, rfl, q H1 m1 x1 o1 _ ((en1.set r2).set r3)⟩
  · cases f
abbrev Src := Nat → Sto → Option (Option D)
def ItOk (K : PySem.W.Frag × List Addr) (T : List Addr) (H1 : Hp) (m1 : List Addr) (J : It) (src : Src) : Prop :=
  ∀ (E : List Addr) (i : Nat) (H : Hp) (m : List Addr) (S : Sto), (∀ a ∈ E, H1 a = none) → ExtH K.2 T H1 m1 H m → Ok (K.1, E ++ K.2) T H m S → match src i S with
    | some (some d) => J.go i H ∧ ∀ x H', J.yld i H x H' → ∃ m', Ext T H m H' m' ∧ Ok (K.1, E ++ K.2) T H' m' S ∧ Rep (K.1, E ++ K.2) H' m' x d
    | some none => J.stop i H
    | none => True
abbrev DI := Gam → Sto → Option (Src × Nat × Sto)
def iD (K : PySem.W.Frag) (T : List Addr) (f : DI) : TI := fun σ H R => ∃ (Z : List Addr) (G : Gam) (S : Sto) (m : List Addr) (src : Src) (n : Nat) (S' : Sto), Ok (K, Z) T H m S ∧ EnvOk (K, Z) H m σ G ∧ f G S = some (src, n, S') ∧
  ∀ J H' m', Ext T H m H' m' → Ok (K, Z) T H' m' S' → ItOk (K, Z) T H' m' J src → R J H'
theorem piImp {tg it : Expr} {w w' : TI} (h : PI X tg it w) (k : ∀ σ H R, w' σ H R → w σ H R) : PI X tg it w' :=
  ⟨fun pins s σ H R I q => h.run pins s σ H R I (k σ H R q)⟩
def dLoop (src : Src) (g : DG) (b : DS) : Nat → Nat → DS
  | 0, _ => fun _ _ => none
  | n + 1, i => fun G S => (src i S).bind fun o => match o with
    | none => some (.nx, G, S)
    | some d => (g d G S).bind fun p => (b p.1 p.2).bind fun q => match q.1 with
      | .nx => dLoop src g b n (i + 1) q.2.1 q.2.2
      | .ct => dLoop src g b n (i + 1) q.2.1 q.2.2
      | .bk => some (.nx, q.2)
      | .rt d => some (.rt d, q.2)
def dFor (w : DI) (g : DG) (b : DS) : DS := fun G S => (w G S).bind fun p => dLoop p.1 g b p.2.1 0 G p.2.2
theorem rFor {I : List Nat} {w : DI} {g : DG} {b : DS} (h : PS X st (tFor (iD X.K T w) (gD X.K T I g) (sD X.K T b))) : PS X st (sD X.K T (dFor w g b)) := by
  refine psImp h fun D σ H ⟨Z, G, S, m, fl, G', S', ok, en, f, q⟩ => ?_
  unfold dFor at f
  obtain ⟨⟨src, n, S0⟩, e0, f⟩ := Option.bind_eq_some_iff.mp f
  refine ⟨Z, G, S, m, src, n, S0, ok, en, e0, fun J H0 m0 x0 o0 it => ?_⟩
  refine ⟨fun i k σ H => ∃ (G : Gam) (S : Sto) (m : List Addr), Ext T H0 m0 H m ∧ Ok (X.K, Z) T H m S ∧ EnvOk (X.K, Z) H m σ G ∧ dLoop src g b k i G S = some (fl, G', S') ∧ ∀ H' m', Ext T H m H' m' → Ok (X.K, Z) T H' m' S' → Fin1 (X.K, Z) D fl G' H' m',
    ⟨n, G, S0, m0, Ext.refl, o0, en.mono x0 ok, f, fun H' m' x o => q H' m' (x0.trans x) o⟩, ?_⟩
  rintro i k σ1 H1 ⟨G1, S1, m1, x1, o1, en1, f1, q1⟩
  cases k with
  | zero => cases f1
  | succ k =>
    unfold dLoop at f1
    obtain ⟨o, e1, f2⟩ := Option.bind_eq_some_iff.mp f1
    have t := it [] i H1 m1 S1 (fun a h => by cases h) x1.h o1
    rw [e1] at t
    cases o with
    | none =>
      cases f2
      exact .inl ⟨t, q1 H1 m1 Ext.refl o1 σ1 en1⟩
    | some d =>
      obtain ⟨⟨G2, S2⟩, e2, f3⟩ := Option.bind_eq_some_iff.mp f2
      obtain ⟨⟨fl3, G3, S3⟩, e3, f4⟩ := Option.bind_eq_some_iff.mp f3
      refine .inr ⟨t.1, fun σ' H' => ∃ (G : Gam) (S : Sto) (m : List Addr), Ext T H0 m0 H' m ∧ Ok (X.K, Z) T H' m S ∧ EnvOk (X.K, Z) H' m σ' G ∧ dLoop src g b k (i + 1) G S = some (fl, G', S') ∧ ∀ H2 m2, Ext T H' m H2 m2 → Ok (X.K, Z) T H2 m2 S' → Fin1 (X.K, Z) D fl G' H2 m2,
        fun σ' H' w => ⟨k, Nat.lt_succ_self k, w⟩, fun x H' y => ?_⟩
      obtain ⟨m', x', o', r'⟩ := t.2 x H' y
      refine ⟨Z, d, G1, S1, m', G2, S2, o', en1.mono x' o1, r', e2, fun σ2 H2 m2 x2 o2 en2 _ => ?_⟩
      refine sD.go o2 en2 e3 fun H3 m3 x3 o3 => ?_
      have xx := (x'.trans x2).trans x3
      cases fl3 with
      | nx => exact fun σ3 en3 => ⟨G3, S3, m3, x1.trans xx, o3, en3, f4, fun H4 m4 x4 o4 => q1 H4 m4 (xx.trans x4) o4⟩
      | ct => exact fun σ3 en3 => ⟨G3, S3, m3, x1.trans xx, o3, en3, f4, fun H4 m4 x4 o4 => q1 H4 m4 (xx.trans x4) o4⟩
      | bk =>
        cases f4
        exact fun σ3 en3 => q1 H3 m3 xx o3 σ3 en3
      | rt d' =>
        cases f4
        exact fun v r => q1 H3 m3 xx o3 v r
/-- items that stand still -/
def fixS (ds : List D) : Src := fun i _ => some ds[i]?
/-- a list cell, as it stands at each turn -/
def celS (n : Nat) : Src := fun i S => match S[n]? with
  | some (.lst ds) => some ds[i]?
  | _ => none
def srcD (S : Sto) (d : D) : Option (Src × Nat) := match d with
  | .loc n => match S[n]? with
    | some (.lst ds) => some (celS n, ds.length + 1)
    | _ => none
  | d => (seqD S d).map fun ds => (fixS ds, ds.length + 1)
def dSeqI (f : DE) : DI := fun G S => (f G S).bind fun p => (srcD p.2 p.1).map fun q => (q.1, q.2, p.2)
def isTupD : D → Bool
  | .tup _ => true
  | _ => false
theorem itemsAt {K : PySem.W.Frag × List Addr} {H' : Hp} {m' : List Addr} {xs : List V} {ds : List D} (i : Nat) (rs : Reps K H' m' xs ds) : match ds[i]? with
    | some d => ∃ x, xs[i]? = some x ∧ Rep K H' m' x d
    | none => xs.length ≤ i := by
  cases e : ds[i]? with
  | none =>
    have := List.getElem?_eq_none_iff.mp e
    show xs.length ≤ i
    rw [rs.len]; exact this
  | some d => exact rs.get e
theorem Reps.later {K : PySem.W.Frag × List Addr} {H H' : Hp} {m m' : List Addr} {S : Sto} {xs : List V} {ds : List D} {E : List Addr} (hE : ∀ a ∈ E, H a = none) (x : ExtH K.2 T H m H' m') (ok : Ok K T H m S) (r : Reps K H m xs ds) : Reps (K.1, E ++ K.2) H' m' xs ds :=
  Reps.monoH (K := (K.1, E ++ K.2)) (fun a ha => List.mem_append_right _ ha) x ok (Reps.hide (K := K.1) (Z := K.2) hE r)
theorem srcT_ok {K : PySem.W.Frag × List Addr} {H : Hp} {m : List Addr} {S : Sto} {v : V} {ds : List D} (ok : Ok K T H m S) (r : Rep K H m v (.tup ds)) :
    ∃ a, v = .ref a ∧ (∃ xs, SqT K.1 H a xs) ∧ ItOk K T H m (Itt K.1 a) (fixS ds) := by
  cases r with
  | tup h rs =>
    refine ⟨_, rfl, ⟨_, h⟩, fun E i H' m' S' hE x' o' => ?_⟩
    have t := itemsAt i (Reps.later hE x' ok rs)
    unfold fixS
    revert t
    cases ds[i]? with
    | none => intro t; exact ⟨_, x'.rdT ok h, t⟩
    | some d =>
      rintro ⟨x, t1, t2⟩
      refine ⟨⟨_, x, x'.rdT ok h, t1⟩, fun y H2 hy => ?_⟩
      obtain ⟨rfl, hy⟩ := hy
      have e := hy _ (x'.rdT ok h)
      rw [t1] at e
      cases e
      exact ⟨m', Ext.refl, o', t2⟩
theorem srcL_ok {K : PySem.W.Frag × List Addr} {H : Hp} {m : List Addr} {S : Sto} {v : V} {d : D} {src : Src} {n : Nat} (ok : Ok K T H m S) (r : Rep K H m v d) (hn : isTupD d = false) (e : srcD S d = some (src, n)) :
    ∃ a, v = .ref a ∧ (∃ xs, SqL K.1 H a xs) ∧ ItOk K T H m (Itl K.1 a) src := by
  have listCase : ∀ (a : Addr) (src : Src), (∀ (E : List Addr) i H' m' S', (∀ a ∈ E, H a = none) → ExtH K.2 T H m H' m' → Ok (K.1, E ++ K.2) T H' m' S' → match src i S' with
      | some (some d) => ∃ xs x, SqL K.1 H' a xs ∧ xs[i]? = some x ∧ Rep (K.1, E ++ K.2) H' m' x d
      | some none => ∃ xs, SqL K.1 H' a xs ∧ xs.length ≤ i
      | none => True) → ItOk K T H m (Itl K.1 a) src := by
    intro a src h E i H' m' S' hE x' o'
    have t := h E i H' m' S' hE x' o'
    revert t
    cases src i S' with
    | none => intro _; trivial
    | some o =>
      cases o with
      | none => intro t; exact t
      | some d =>
        rintro ⟨xs, x, t1, t2, t3⟩
        refine ⟨⟨xs, x, t1, t2⟩, fun y H2 hy => ?_⟩
        obtain ⟨rfl, hy⟩ := hy
        have e := hy xs t1
        rw [t2] at e
        cases e
        exact ⟨m', Ext.refl, o', t3⟩
  have fixCase : ∀ (a : Addr) (ds : List D) (xs : List V), Reps K H m xs ds → (∀ H' m', ExtH K.2 T H m H' m' → SqL K.1 H' a xs) → ItOk K T H m (Itl K.1 a) (fixS ds) := by
    intro a ds xs rs hq
    refine listCase a _ fun E i H' m' S' hE x' o' => ?_
    have t := itemsAt i (Reps.later hE x' ok rs)
    have q := hq H' m' x'
    unfold fixS
    revert t
    cases ds[i]? with
    | none => intro t; exact ⟨_, q, t⟩
    | some d => rintro ⟨x, t1, t2⟩; exact ⟨_, x, q, t1, t2⟩
  cases d with
  | tup xs => cases hn
  | lst xs =>
    cases e
    cases r with
    | lst h n z rs => exact ⟨_, rfl, ⟨_, SqL.of h⟩, fixCase _ _ _ rs fun H' m' x' => SqL.of (x'.lst ok h n z).1⟩
  | scr xs =>
    cases e
    cases r with
    | scr h n z rs => exact ⟨_, rfl, ⟨_, .inl h⟩, fixCase _ _ _ rs fun H' m' x' => .inl (x'.rd ok (by intro ps z; cases z) h n (.inr z)).1⟩
    | scrK h rs =>
      have hk : ∀ H', SqL K.1 H' _ _ := fun H' => by
        rcases h with (h | ⟨o, h⟩) | h
        · cases h
        · cases h
        · exact .inr h
      exact ⟨_, rfl, ⟨_, hk H⟩, fixCase _ _ _ rs fun H' m' x' => hk H'⟩
  | loc n' =>
    unfold srcD at e
    simp only at e
    split at e
    · rename_i ds es
      cases e
      cases r with
      | loc hm =>
        rename_i a
        obtain ⟨xs, hq, rs⟩ := ok.lst _ _ _ hm es
        refine ⟨a, rfl, ⟨xs, SqL.of hq⟩, listCase _ _ fun E i H' m' S' hE x' o' => ?_⟩
        have key : match celS n' i S' with
            | some o => ∃ ds' ys, H' a = some (.lst ys) ∧ Reps (K.1, E ++ K.2) H' m' ys ds' ∧ o = ds'[i]?
            | none => True := by
          unfold celS
          split
          · rename_i o e2
            split at e2
            · rename_i ds' es'
              obtain ⟨ys, hq', rs'⟩ := o'.lst _ _ _ (x'.at hm) es'
              cases e2
              exact ⟨ds', ys, hq', rs', rfl⟩
            · cases e2
          · trivial
        revert key
        cases celS n' i S' with
        | none => intro _; trivial
        | some o =>
          rintro ⟨ds', ys, hq', rs', rfl⟩
          have t := itemsAt i rs'
          revert t
          cases ds'[i]? with
          | none => intro t; exact ⟨ys, SqL.of hq', t⟩
          | some d => rintro ⟨x, t1, t2⟩; exact ⟨ys, x, SqL.of hq', t1, t2⟩
    · cases e
  | non => cases e
  | bl _ => cases e
  | int _ => cases e
  | str _ => cases e
  | dic _ _ => cases e
theorem piOr {tg it : Expr} {w w' : TI} (h : PI X tg it w) (h' : PI X tg it w') : PI X tg it (fun σ H R => w σ H R ∨ w' σ H R) :=
  ⟨fun pins s σ H R I q => q.elim (h.run pins s σ H R I) (h'.run pins s σ H R I)⟩
/-- over a list or a tuple -/
theorem rSeqI {tg : Expr} {f : DE} (h : PE X e (tD X.K T f)) : PI X tg e (iD X.K T (dSeqI f)) := by
  refine piImp (piOr (pi_list h) (pi_tup h)) fun σ H R ⟨Z, G, S, m, src, n, S', ok, en, f, q⟩ => ?_
  unfold dSeqI at f
  obtain ⟨⟨d, S1⟩, e1, f⟩ := Option.bind_eq_some_iff.mp f
  obtain ⟨⟨src', n'⟩, e2, f⟩ := Option.map_eq_some_iff.mp f
  cases f
  cases ht : isTupD d with
  | false =>
    refine .inl (tD.go ok en e1 fun v H1 m1 x1 o1 en1 r1 => ?_)
    obtain ⟨a, rfl, h1, h2⟩ := srcL_ok o1 r1 ht e2
    exact ⟨a, rfl, h1, q _ H1 m1 x1 o1 h2⟩
  | true =>
    refine .inr (tD.go ok en e1 fun v H1 m1 x1 o1 en1 r1 => ?_)
    cases d with
    | tup ds =>
      cases e2
      obtain ⟨a, rfl, h1, h2⟩ := srcT_ok o1 r1
      exact ⟨a, rfl, h1, q _ H1 m1 x1 o1 h2⟩
    | _ => cases ht
/-- over a range -/
def rngD (lo hi : Int) : List D := (List.range (hi - lo).toNat).map fun (i : Nat) => D.int (lo + (i : Int))
def dRng (fa : DA) : DI := fun G S => (fa G S).bind fun p => match p.1 with
  | [.int j] => if -1000000000 ≤ j ∧ j ≤ 1000000000 then some (fixS (rngD 0 j), (rngD 0 j).length + 1, p.2) else none
  | [.int i, .int j] => if (-1000000000 ≤ i ∧ i ≤ 1000000000) ∧ (-1000000000 ≤ j ∧ j ≤ 1000000000) then some (fixS (rngD i j), (rngD i j).length + 1, p.2) else none
  | _ => none
theorem rng_ok {K : PySem.W.Frag × List Addr} {H : Hp} {m : List Addr} (lo hi : Int) : ItOk K T H m (Itr lo (hi - lo).toNat) (fixS (rngD lo hi)) := by
  intro E i H' m' S' hE x' o'
  unfold fixS rngD
  rw [List.getElem?_map]
  by_cases h : i < (hi - lo).toNat
  · rw [List.getElem?_range h]
    refine ⟨h, fun x H2 hy => ?_⟩
    obtain ⟨rfl, rfl⟩ := hy
    exact ⟨m', Ext.refl, o', .int _⟩
  · rw [List.getElem?_eq_none (by simpa using h)]
    show (hi - lo).toNat ≤ i
    omega
def one1 : List D → Bool
  | [_] => true
  | _ => false
theorem rRngA {tg : Expr} {fa : DA} (h : PI X tg e (iRng1 (tA X.K T fa))) : PI X tg e (iD X.K T (fun G S => (fa G S).bind fun p => if one1 p.1 = true then dRng fa G S else none)) := by
  refine piImp h fun σ H R ⟨Z, G, S, m, src, n, S', ok, en, f, q⟩ => ?_
  obtain ⟨⟨ds, S1⟩, e1, f⟩ := Option.bind_eq_some_iff.mp f
  split at f
  · rename_i h1
    unfold dRng at f
    rw [e1] at f
    simp only [Option.bind_some] at f
    refine tA.go ok en e1 fun vs H1 m1 x1 o1 en1 r1 => ?_
    split at f
    · split at f
      · rename_i j hj
        cases f
        obtain ⟨v, rfl, rv⟩ := one_inv r1
        cases rv
        refine ⟨j, rfl, by omega, by omega, ?_⟩
        have t := rng_ok (T := T) (K := (X.K, Z)) (H := H1) (m := m1) 0 j
        rw [Int.sub_zero] at t
        exact q _ H1 m1 x1 o1 t
      · cases f
    · cases h1
    · cases f
  · cases f
def two2 : List D → Bool
  | [_, _] => true
  | _ => false
end
end Vw
set_option maxRecDepth 100000
set_option maxHeartbeats 4000000
namespace Vw
open PySem PySem.Spec L2
def wipeG (G : Gam) : List Nat → Gam
  | [] => G
  | v :: vs => (wipeG G vs).set v none
theorem EnvOk.wipe {K : PySem.W.Frag × List Addr} {H : Hp} {m : List Addr} {σ : L2.St} {G : Gam} (e : EnvOk K H m σ G) : ∀ vs : List Nat, EnvOk K H m (L2.wipe σ vs) (wipeG G vs)
  | [] => e
  | v :: vs => by
    have ih := e.wipe vs
    unfold L2.wipe wipeG
    refine ⟨by simp [ih.len], fun i d h => ?_⟩
    by_cases hi : v = i
    · subst hi
      by_cases hl : v < (wipeG G vs).length
      · rw [List.getElem?_set_self hl] at h; cases h
      · rw [List.getElem?_eq_none (by simpa using hl)] at h; cases h
    · rw [List.getElem?_set_ne hi] at h
      obtain ⟨w, a, r⟩ := ih.at_ i d h
      exact ⟨w, by rw [List.getElem?_set_ne hi]; exact a, r⟩
theorem wipe_out' {σ : L2.St} {i : Nat} : ∀ {vs : List Nat}, i ∉ vs → (L2.wipe σ vs)[i]? = σ[i]?
  | [], _ => rfl
  | v :: vs, h => by
    unfold L2.wipe
    rw [List.getElem?_set_ne (fun z => h (by rw [z]; exact List.mem_cons_self))]
    exact wipe_out' fun z => h (List.mem_cons_of_mem _ z)
theorem wipe_in {σ : L2.St} {i : Nat} : ∀ {vs : List Nat}, i ∈ vs → i < σ.length → (L2.wipe σ vs)[i]? = some none
  | [], h, _ => by cases h
  | v :: vs, h, hl => by
    unfold L2.wipe
    by_cases e : v = i
    · subst e
      exact List.getElem?_set_self (by rw [L2.wipe_length]; exact hl)
    · rw [List.getElem?_set_ne e]
      rcases List.mem_cons.mp h with h | h
      · exact absurd h.symm e
      · exact wipe_in h hl
theorem wipe_of_sl {σ σ2 : L2.St} {vs : List Nat} (h : Sl vs (L2.wipe σ vs) σ2) : L2.wipe σ2 vs = L2.wipe σ vs := by
  have hl : σ2.length = σ.length := by rw [h.1, L2.wipe_length]
  apply List.ext_getElem?
  intro i
  by_cases hi : i ∈ vs
  · by_cases hlt : i < σ.length
    · rw [wipe_in hi hlt, wipe_in hi (by rw [hl]; exact hlt)]
    · have h1 : (L2.wipe σ2 vs).length ≤ i := by rw [L2.wipe_length]; omega
      have h2 : (L2.wipe σ vs).length ≤ i := by rw [L2.wipe_length]; omega
      rw [List.getElem?_eq_none h1, List.getElem?_eq_none h2]
  · rw [wipe_out' hi, h.2 i hi]
/-- the turns of a comprehension: each begins with the same names -/
def dLcLoop (src : Src) (g : DG) (t : DT) (f : DE) (G : Gam) : Nat → Nat → Sto → List D → Option (List D × Sto)
  | 0, _, _, _ => none
  | n + 1, i, S, acc => (src i S).bind fun o => match o with
    | none => some (acc, S)
    | some d => (g d G S).bind fun p => (t p.1 p.2).bind fun b => if b.1 = true
        then (f p.1 b.2).bind fun y => dLcLoop src g t f G n (i + 1) y.2 (acc ++ [y.1])
        else dLcLoop src g t f G n (i + 1) b.2 acc
theorem dLcLoop_len {src : Src} {g : DG} {t : DT} {f : DE} {G : Gam} : ∀ (n i : Nat) (S : Sto) (acc ds : List D) (S' : Sto), dLcLoop src g t f G n i S acc = some (ds, S') → acc.length ≤ ds.length
  | 0, _, _, _, _, _, h => by cases h
  | n + 1, i, S, acc, ds, S', h => by
    unfold dLcLoop at h
    obtain ⟨o, e1, h⟩ := Option.bind_eq_some_iff.mp h
    cases o with
    | none => cases h; exact Nat.le_refl _
    | some d =>
      obtain ⟨p, e2, h⟩ := Option.bind_eq_some_iff.mp h
      obtain ⟨b, e3, h⟩ := Option.bind_eq_some_iff.mp h
      split at h
      · obtain ⟨y, e4, h⟩ := Option.bind_eq_some_iff.mp h
        have := dLcLoop_len n _ _ _ _ _ h
        rw [List.length_append] at this
        exact Nat.le_trans (Nat.le_add_right _ _) this
      · exact dLcLoop_len n _ _ _ _ _ h
def dComp (own : List Nat) (w : DI) (g : DG) (t : DT) (f : DE) : DA := fun G S => (w G S).bind fun p => dLcLoop p.1 g t f (wipeG G own) p.2.1 0 p.2.2 []
def dLc (c : Bool) (own : List Nat) (w : DI) (g : DG) (t : DT) (f : DE) : DE := fun G S => (dComp own w g t f G S).bind fun p => okLst c p.1 p.2
theorem openLc {K : PySem.W.Frag} {T : List Addr} {c : Bool} {own : List Nat} {w : DI} {g : DG} {t : DT} {f : DE} : ∀ σ H Q, tD K T (dLc c own w g t f) σ H Q → tLc (iD K T w) (gD K T own g) (tB K T t) (tD K T f) own σ H Q := by
  rintro σ H Q ⟨Z, G, S, m, d, S', ok, en, e, q⟩
  unfold dLc dComp at e
  obtain ⟨⟨ds, S2⟩, e, eL⟩ := Option.bind_eq_some_iff.mp e
  obtain ⟨⟨src, n, S1⟩, e1, e⟩ := Option.bind_eq_some_iff.mp e
  refine ⟨Z, G, S, m, src, n, S1, ok, en, e1, fun J H1 m1 x1 o1 it => ?_⟩
  intro Dp hD
  have hE : ∀ a ∈ [Dp], H1 a = none := fun a ha => by rw [List.mem_singleton.mp ha]; exact hD
  have hZ : Dp ∉ Z := (o1.free hD).2.2
  refine ⟨fun i k H => ∃ (S : Sto) (m : List Addr) (acc : List D) (xs : List V), Ext T H1 m1 H m ∧ Ok (K, [Dp] ++ Z) T H m S ∧ EnvOk (K, [Dp] ++ Z) H m (L2.wipe σ own) (wipeG G own) ∧ H Dp = some (.lst xs) ∧ Reps (K, [Dp] ++ Z) H m xs acc ∧
    dLcLoop src g t f (wipeG G own) k i S acc = some (ds, S2),
    ⟨n, S1, m1, [], [], Ext.laid o1 hD, o1.aside hD, ((en.mono x1 ok).wipe own).aside hD, upd_same, .nil, e⟩, ?_⟩
  rintro i k H2 ⟨S3, m2, acc, xs, x2, o2, en2, hx, rs, e2⟩
  cases k with
  | zero => cases e2
  | succ k =>
    unfold dLcLoop at e2
    obtain ⟨o, e3, e4⟩ := Option.bind_eq_some_iff.mp e2
    have tt := it [Dp] i H2 m2 S3 hE x2.h o2
    rw [e3] at tt
    cases o with
    | none =>
      cases e4
      refine .inl ⟨tt, ?_⟩
      -- the list is done: it is known from now on
      have ob := o2.bare
      have nd := (o2.hid Dp (List.mem_append_left _ (List.mem_singleton.mpr rfl))).1
      unfold okLst at eL
      split at eL
      · split at eL
        · cases eL
          have xc : Ext T H m H2 (m2 ++ [Dp]) := by
            have x3 := x1.trans x2
            refine ⟨?_, fun a u ha hn ht => x3.old a u ha hn ht, fun a ha hn ht => ?_⟩
            · obtain ⟨r, er⟩ := x3.pre
              exact ⟨r ++ [Dp], by rw [er, List.append_assoc]⟩
            · rcases List.mem_append.mp ha with ha | ha
              · exact x3.new a ha hn ht
              · rw [List.mem_singleton.mp ha] at hn ht ⊢
                cases qq : H Dp with
                | none => rfl
                | some u => rw [x1.old _ u qq hn ht] at hD; cases hD
          have x5 : Ext T H2 m2 H2 (m2 ++ [Dp]) → True := fun _ => trivial
          -- as if it were laid now: by the heap without it
          refine q _ H2 (m2 ++ [Dp]) xc ?_ (.loc (by rw [← ob.len]; simp))
          exact o2.nowCell hx rs nd
        · cases eL
          exact q _ H2 m2 (x1.trans x2) ob (.lst hx nd hZ rs.bare)
      · cases eL
    | some dv =>
      obtain ⟨⟨G4, S4⟩, e5, e6⟩ := Option.bind_eq_some_iff.mp e4
      obtain ⟨⟨b, S5⟩, e7, e8⟩ := Option.bind_eq_some_iff.mp e6
      refine .inr ⟨tt.1, fun H' => ∃ (S : Sto) (m : List Addr) (acc : List D) (xs : List V), Ext T H1 m1 H' m ∧ Ok (K, [Dp] ++ Z) T H' m S ∧ EnvOk (K, [Dp] ++ Z) H' m (L2.wipe σ own) (wipeG G own) ∧ H' Dp = some (.lst xs) ∧ Reps (K, [Dp] ++ Z) H' m xs acc ∧
        dLcLoop src g t f (wipeG G own) k (i + 1) S acc = some (ds, S2), fun H' w => ⟨k, Nat.lt_succ_self k, w⟩, fun x H' y => ?_⟩
      obtain ⟨m', x', o', r'⟩ := tt.2 x H' y
      have nd2 : ∀ {m3 : List Addr} {H3 : Hp}, Ext T H2 m2 H3 m3 → H3 Dp = some (.lst xs) := fun {m3 H3} x3 => by
        have h1 := (o2.hid Dp (List.mem_append_left _ (List.mem_singleton.mpr rfl))).1
        exact (x3.lst o2 hx h1).1
      refine ⟨[Dp] ++ Z, dv, _, S3, m', G4, S4, o', en2.mono x' o2, r', e5, fun σ2 H4 m4 x4 o4 en4 sl4 => ⟨wipe_of_sl sl4, ?_⟩⟩
      refine tB.go o4 en4 e7 fun H5 m5 x5 o5 en5 => ?_
      have x6 := (x'.trans x4).trans x5
      cases b with
      | false =>
        rw [if_neg Bool.false_ne_true]
        simp only [Bool.false_eq_true, if_false] at e8
        exact ⟨S5, m5, acc, xs, x2.trans x6, o5, en2.mono x6 o2, nd2 x6, rs.mono x6 o2, e8⟩
      | true =>
        rw [if_pos rfl]
        simp only [if_true] at e8
        obtain ⟨⟨yv, S6⟩, e9, e10⟩ := Option.bind_eq_some_iff.mp e8
        refine tD.go o5 en5 e9 fun v H7 m7 x7 o7 en7 r7 => ?_
        have x8 := x6.trans x7
        have hx7 := nd2 x8
        have rs7 := rs.mono x8 o2
        have nd7 := (o7.hid Dp (List.mem_append_left _ (List.mem_singleton.mpr rfl))).1
        refine ⟨xs, hx7, ?_, ?_⟩
        · have h1 := dLcLoop_len _ _ _ _ _ _ e10
          have h2 := okLst_len eL
          rw [List.length_append] at h1
          rw [rs.len]
          exact lim_lt (Nat.le_trans (Nat.le_trans (Nat.le_add_right _ _) h1) h2)
        · refine ⟨S6, m7, acc ++ [yv], xs ++ [v], ?_, o7.grow nd7 hx7, (en2.mono x8 o2).grow nd7 hx7, upd_same, ?_, e10⟩
          · have x9 := x2.trans x8
            refine ⟨x9.pre, fun a u ha hn ht => ?_, x9.new⟩
            have ne : a ≠ Dp := fun z => by rw [z, hD] at ha; cases ha
            rw [upd_ne ne]
            exact x9.old a u ha hn ht
          · exact (rs7.app (.one r7)).grow hx7
end Vw
set_option maxRecDepth 100000
set_option maxHeartbeats 4000000
namespace Vw
open PySem PySem.Spec PyProof.Rows L2 GenW
/-- one of the generator's own iterators: its objects -/
def FpG (X : Cx) (S : Addr) (ip : List (Addr × Obj)) (b : Addr) : Prop :=
  b ≠ X.env.locals ∧ b ∉ X.fs ∧ (b ∈ X.ex ∨ X.s_0.heap.objs.size ≤ b) ∧ (∀ x c, X.env.cells.lookup x = some c → c ≠ b) ∧ (∀ p ∈ X.pn ++ ip, p.1 ≠ b) ∧ S ≠ b
theorem FpG.ok {X : Cx} {S : Addr} {ip : List (Addr × Obj)} {b : Addr} {H : Hp} {o : Obj} (h : FpG X S ip b) (n : H b = none) : FpOk X ((S, o) :: ip) H b := by
  obtain ⟨h1, h2, h3, h4, h5, h6⟩ := h
  refine ⟨n, h1, h2, h3, h4, fun p hp => ?_⟩
  rcases List.mem_append.mp hp with hp | hp
  · exact h5 p (List.mem_append_left _ hp)
  · rcases List.mem_cons.mp hp with hp | hp
    · rw [hp]; exact h6
    · exact h5 p (List.mem_append_right _ hp)
end Vw
set_option maxRecDepth 100000
set_option maxHeartbeats 4000000
namespace Vw
open PySem PySem.Spec PyProof.Rows L2 GenW
/-- nothing is thrown -/
abbrev noE : XK := fun _ _ _ => False
theorem noCX {P : Program} {w : World} {outer : List Env} {H : Hp} {s s' : Shared} {e : Value} (h : L2.CX P w outer H s noE e s') : False := by
  obtain ⟨a, B, H', cls, d, _, _, _, _, _, _, _, hW⟩ := h
  exact hW
end Vw
set_option maxRecDepth 100000
set_option maxHeartbeats 4000000
namespace Vw
open PySem PySem.Spec PyProof.Rows L2 GenW
end Vw
set_option maxRecDepth 100000
set_option maxHeartbeats 4000000
namespace Vw
open PySem PySem.Spec PyProof.Rows L2 GenW
theorem clr_deeper {A : Around} {env : Env} (h : Clr A) : Clr (A.deeper env) := h
end Vw
set_option maxRecDepth 100000
set_option maxHeartbeats 4000000
namespace Vw
open PySem PySem.Spec PyProof.Rows L2 GenW
end Vw
set_option maxRecDepth 100000
set_option maxHeartbeats 4000000
namespace Vw
open PySem PySem.Spec PyProof.Rows L2
abbrev DF := List D → Sto → Option (D × Sto)
def spD (K : PySem.W.Frag) (T : List Addr) (n : Nat) (f : DF) : Sp := fun vs H Q _ => ∃ (Z : List Addr) (S : Sto) (m : List Addr) (ds : List D) (d : D) (S' : Sto), vs.length = n ∧ Ok (K, Z) T H m S ∧ Reps (K, Z) H m vs ds ∧ f ds S = some (d, S') ∧
  ∀ v H' m', Ext T H m H' m' → Ok (K, Z) T H' m' S' → Rep (K, Z) H' m' v d → Q v H'
/-- a def by its body; N: how many names it has -/
def dDef (N : Nat) (b : DS) : DF := fun ds S => (b (ds.map some ++ List.replicate (N - ds.length) none) S).bind fun r => match r.1 with
  | .rt d => some (d, r.2.2)
  | .nx => some (.non, r.2.2)
  | _ => none
theorem reps_env {K : PySem.W.Frag × List Addr} {H : Hp} {m : List Addr} (n : Nat) : ∀ {vs : List V} {ds : List D}, Reps K H m vs ds → EnvOk K H m (vs.map some ++ List.replicate n none) (ds.map some ++ List.replicate n none) := by
  intro vs ds r
  refine ⟨by simp [r.len], fun i d h => ?_⟩
  by_cases hi : i < ds.length
  · rw [List.getElem?_append_left (by simpa using hi), List.getElem?_map] at h
    cases e : ds[i]? with
    | none => rw [e] at h; cases h
    | some x =>
      rw [e] at h; cases h
      obtain ⟨v, hv, rv⟩ := r.get e
      refine ⟨v, ?_, rv⟩
      have hl := r.len
      rw [List.getElem?_append_left (by simp; omega), List.getElem?_map, hv]; rfl
  · rw [List.getElem?_append_right (by simpa using hi), List.getElem?_replicate] at h
    split at h <;> cases h
theorem fnG_D {CX : CXT} {P : Program} {w : World} {K : PySem.W.Frag} {mg : Str → Option Value} {base : Heap} {k : Nat} {f : Addr} {x qual : Str} {st : Stmt} {fd : FuncData} {N ps : List Str} {T : List Addr} {b : DS}
    (F : Fun K x qual st f fd) (S : FnScope N ps (defScope st))
    (body : ∀ (cdv : Value) (A : Around) (outer : List Env) (s : Shared) (H : Hp) (E : XK), fd.code = cdv → Clr A → Room k (A.deeper (envOfC qual (defScope st) s.heap.objs.size f cdv)) →
      PSs (cxOf CX P w K mg base N qual (defScope st) f cdv A outer s H E) (defBody st) (sD K T b)) :
    FnG P w K mg base CX (k + 1) f fd ps (spD K T ps.length (dDef N.length b)) := by
  refine fnG_of F S (fun vs H Q E h => ?_) (fun cdv A outer s H vs Q E hcd _ hc hr h => ⟨_, body cdv A outer s H E hcd hc hr, ?_⟩)
  · obtain ⟨_, _, _, _, _, _, h, _⟩ := h; exact h
  · obtain ⟨Z, S1, m, ds, d, S', hl, ok, rs, e, q⟩ := h
    unfold dDef at e
    obtain ⟨⟨fl, G', S2⟩, e1, e2⟩ := Option.bind_eq_some_iff.mp e
    have hst : L2.start N vs = vs.map some ++ List.replicate (N.length - ds.length) none := by
      unfold L2.start
      rw [← rs.len]
    rw [hst]
    refine sD.go ok (reps_env _ rs) e1 fun H' m' x' o' => ?_
    cases fl with
    | rt d0 =>
      cases e2
      intro v rv
      exact q v H' m' x' o' rv
    | nx =>
      cases e2
      intro σ' _
      exact q .non H' m' x' o' .non
    | bk => cases e2
    | ct => cases e2
section
variable {X : Cx} {T : List Addr} {k : Nat} {f : Addr} {fd : FuncData} {ps ks : List Str} {x : Str} {p pos : Pos} {e : Expr} {es : List Expr} {kws : List Keyword} {fn : DF} {n : Nat}
def dCallF (n : Nat) (fa : DA) (fn : DF) : DE := fun G S => (fa G S).bind fun p => if p.1.length = n then fn p.1 p.2 else none
theorem run_D {pins : List (Addr × Obj)} {σ : L2.St} {H : Hp} {s : Shared} {Q : VK} {zs : List Value} {vs : List V} {args : Args} {E : Value → Shared → Prop} (F : FnG X.prog X.w X.K X.mg X.base (L2.CX X.prog X.w) k f fd ps (spD X.K T n fn)) (hr : Room k X.A) (hc : Clr X.A)
    (I : Inv X pins σ H s) (hb : BindsTo s fd args (ps.zip zs)) (r : Vals vs zs) (h : spD X.K T n fn vs H Q noE) : codeAny (model X.prog X.w) X.A (.call (.ref f) args) (fun r s' => match r with | .ok (.ret u) => EP X pins σ Q u s' | .ok _ => False | .error e => E e s') s := by
  refine codeAny_mono (F.run X.A X.stack s H args zs vs Q noE hr hc I.env0 hb r h) fun r s' hq => ?_
  cases r with
  | error e => exact (noCX hq).elim
  | ok fl =>
    cases fl with
    | ret u => exact I.after hq
    | next => exact hq
    | brk => exact hq
    | cont => exact hq
theorem rCallF {fa : DA} (F : FnG X.prog X.w X.K X.mg X.base (L2.CX X.prog X.w) k f fd ps (spD X.K T n fn)) (hr : Room k X.A) (hc : Clr X.A) (hg : Gl X x) (hm : X.mg x = some (.ref f)) (hk : PySem.W.keepIn X.K (.ref f) = true) (hn : n = ps.length) (hb : Binds X.K fd ps [])
    (ha : PA X (e :: es) (tA X.K T fa)) (hdb : (x == ("__debug__" : Str)) = false := by decide) (he : starEach (e :: es) X.env = (false, eval e X.env) :: starEach es X.env := by rfl) (hpl : (backTo pos (starEach es X.env)).any (·.1) = false := by rfl) :
    PE X (.Call (.Name x p) (e :: es) [] pos) (tD X.K T (dCallF n fa fn)) := by
  refine ⟨fun pins s σ H Q I ⟨Z, G, S, m, d, S', ok, en, g, q⟩ => ?_⟩
  unfold dCallF at g
  obtain ⟨⟨ds, S1⟩, e1, e2⟩ := Option.bind_eq_some_iff.mp g
  refine wpAny_Call_Name_kw (ld_glob I hg hm ?_ hdb)
  refine PySem.W.callWith_K (h₀ := X.base) I.ok.mod.kin hk (thn (ha.run pos pins s σ H (fun vs H1 => ∃ m1, Ext T H m H1 m1 ∧ Ok (X.K, Z) T H1 m1 S1 ∧ Reps (X.K, Z) H1 m1 vs ds) I (tA.go ok en e1 fun vs H1 m1 x1 o1 _ r1 => ⟨m1, x1, o1, r1⟩)) fun us s1 ⟨vs, H1, I1, r, m1, x1, o1, r1⟩ => ⟨I1.kIn, ?_⟩) he hpl
  split at e2
  case isFalse => cases e2
  rename_i hl
  have hvn : vs.length = n := by rw [r1.len]; exact hl
  have hun : (us ++ []).length = ps.length := by rw [List.append_nil, ← r.length, hvn, hn]
  have b := hb s1 us I1.kIn hun
  rw [List.append_nil] at b
  refine wpAny_call (codeAny_mono (run_D (E := X.xe) F hr hc I1 b r ⟨Z, S1, m1, ds, d, S', hvn, o1, r1, e2, fun v H' m' x' o' r' => q v H' m' (x1.trans x') o' r'⟩) fun r s' hq => ?_)
  cases r with
  | error e => exact hq
  | ok fl => cases fl <;> exact hq
/-- by keywords: the arguments at the places ix -/
def pick {α : Type} (ix : List Nat) (l : List α) : List α := ix.filterMap (l[·]?)
theorem pick_reps {K : PySem.W.Frag × List Addr} {H : Hp} {m : List Addr} {vs : List V} {ds : List D} (r : Reps K H m vs ds) : ∀ ix : List Nat, Reps K H m (pick ix vs) (pick ix ds)
  | [] => .nil
  | i :: ix => by
    have ih := pick_reps r ix
    unfold pick at ih ⊢
    rw [List.filterMap_cons, List.filterMap_cons]
    cases e : ds[i]? with
    | none =>
      have : vs[i]? = none := by
        have hl := r.len
        rw [List.getElem?_eq_none_iff] at e ⊢; omega
      rw [this]; exact ih
    | some d =>
      obtain ⟨v, h, rv⟩ := r.get e
      rw [h]; exact .cons rv ih
theorem pick_vals {vs : List V} {us : List Value} (r : Vals vs us) : ∀ ix : List Nat, Vals (pick ix vs) (pick ix us)
  | [] => .nil
  | i :: ix => by
    have ih := pick_vals r ix
    unfold pick at ih ⊢
    rw [List.filterMap_cons, List.filterMap_cons]
    cases e : vs[i]? with
    | none =>
      have : us[i]? = none := by
        have hl := r.length
        rw [List.getElem?_eq_none_iff] at e ⊢; omega
      rw [this]; exact ih
    | some v =>
      obtain ⟨u, h, rv⟩ := r.get e
      rw [h]; exact .cons rv ih
structure KwB (K : PySem.W.Frag) (fd : FuncData) (ps ks : List Str) (np : Nat) (ix : List Nat) : Prop where
  to : ∀ (s : Shared) (us ws : List Value), K.In s.heap → us.length = np → ws.length = ks.length → BindsTo s fd ⟨us, ks.zip ws⟩ (ps.zip (pick ix (us ++ ws)))
def dCallW (n np nk : Nat) (ix : List Nat) (fa fk : DA) (fn : DF) : DE := fun G S => (fa G S).bind fun p => (fk G p.2).bind fun r => if p.1.length = np ∧ r.1.length = nk ∧ (pick ix (p.1 ++ r.1)).length = n then fn (pick ix (p.1 ++ r.1)) r.2 else none
def dNone : DA := fun _ S => some ([], S)
structure PKD (X : Cx) (T : List Addr) (kws : List Keyword) (f : DA) : Prop where
  pk : PK X kws (tA X.K T f)
theorem rkNil : PKD X T [] dNone := ⟨⟨fun pos pins s σ H Q I ⟨Z, G, S, m, ds, S', ok, en, f, q⟩ => by
  cases f
  exact wpAny_evalAll_nil ⟨[], H, I, .nil, q [] H m Ext.refl ok .nil⟩⟩⟩
def dkCons (fe : DE) (fs : DA) : DA := fun G S => (fe G S).bind fun p => (fs G p.2).bind fun q => some (p.1 :: q.1, q.2)
theorem rkCons {nm : Option Str} {kpos : Pos} {fe : DE} {fs : DA} (h : PE X e (tD X.K T fe)) (hs : PKD X T kws fs) : PKD X T (⟨nm, e, kpos⟩ :: kws) (dkCons fe fs) := by
  refine ⟨⟨fun pos pins s σ H Q I ⟨Z, G, S, m, ds, S', ok, en, f, q⟩ => (pk_cons h hs.pk).run pos pins s σ H Q I ?_⟩⟩
  unfold dkCons at f
  obtain ⟨⟨d, S1⟩, e1, f⟩ := Option.bind_eq_some_iff.mp f
  obtain ⟨⟨ds', S2⟩, e2, f⟩ := Option.bind_eq_some_iff.mp f
  cases f
  refine tD.go ok en e1 fun v H1 m1 x1 o1 en1 r1 => ?_
  exact tA.go o1 en1 e2 fun vs H2 m2 x2 o2 _ r2 => q (v :: vs) H2 m2 (x1.trans x2) o2 (.cons (r1.mono x2 o1) r2)
theorem rCallK0 {fk : DA} {ix : List Nat} (F : FnG X.prog X.w X.K X.mg X.base (L2.CX X.prog X.w) k f fd ps (spD X.K T n fn)) (hr : Room k X.A) (hc : Clr X.A) (hg : Gl X x) (hm : X.mg x = some (.ref f)) (hk : PySem.W.keepIn X.K (.ref f) = true) (hn : n = ps.length) (hb : KwB X.K fd ps ks 0 ix)
    (ha : PKD X T kws fk) (hall : (backToKw pos (keywordEach kws X.env)).all (·.1.isSome) = true := by rfl) (hks : (backToKw pos (keywordEach kws X.env)).filterMap (·.1) = ks := by rfl) (hdb : (x == ("__debug__" : Str)) = false := by decide)
    (hpl : ((backTo pos (starEach [] X.env)).any (·.1) || (backToKw pos (keywordEach kws X.env)).any (·.1.isNone)) = false := by rfl) :
    PE X (.Call (.Name x p) [] kws pos) (tD X.K T (dCallW n 0 ks.length ix dNone fk fn)) := by
  refine ⟨fun pins s σ H Q I ⟨Z, G, S, m, d, S', ok, en, g, q⟩ => ?_⟩
  unfold dCallW dNone at g
  obtain ⟨⟨ds0, S0⟩, e0, g⟩ := Option.bind_eq_some_iff.mp g
  cases e0
  obtain ⟨⟨ds, S1⟩, e1, e2⟩ := Option.bind_eq_some_iff.mp g
  refine wpAny_Call_Name_kw (ld_glob I hg hm ?_ hdb)
  refine PySem.W.callWith_KW0 (h₀ := X.base) I.ok.mod.kin hk hall (thn (ha.pk.run pos pins s σ H (fun vs H1 => ∃ m1, Ext T H m H1 m1 ∧ Ok (X.K, Z) T H1 m1 S1 ∧ Reps (X.K, Z) H1 m1 vs ds) I (tA.go ok en e1 fun vs H1 m1 x1 o1 _ r1 => ⟨m1, x1, o1, r1⟩)) fun ws s1 ⟨vs, H1, I1, r, m1, x1, o1, r1⟩ => ⟨I1.kIn, ?_⟩) hpl
  rw [hks]
  split at e2
  case isFalse => cases e2
  rename_i hl
  obtain ⟨_, hl1, hl2⟩ := hl
  have hw : ws.length = ks.length := by rw [← r.length, r1.len]; exact hl1
  have b := hb.to s1 [] ws I1.kIn rfl hw
  have rp := pick_reps r1 ix
  have hvn : (pick ix vs).length = n := by rw [rp.len]; exact hl2
  refine wpAny_call (codeAny_mono (run_D (E := X.xe) F hr hc I1 b (pick_vals r ix) ⟨Z, S1, m1, pick ix ds, d, S', hvn, o1, rp, e2, fun v H' m' x' o' r' => q v H' m' (x1.trans x') o' r'⟩) fun r s' hq => ?_)
  cases r with
  | error e => exact hq
  | ok fl => cases fl <;> exact hq
end
end Vw
set_option maxRecDepth 100000
set_option maxHeartbeats 4000000
namespace Vw
open PySem PySem.Spec PyProof.Rows L2
mutual
theorem Rep.swap {K : PySem.W.Frag} {Z : List Addr} {H : Hp} {m : List Addr} {p : Addr} {o o' : HO} (h : H p = some o) (h1 : ∀ xs, o ≠ .tup xs) (h2 : ∀ a u, o ≠ .frz a u) : ∀ {v : V} {d : D}, Rep (K, [p] ++ Z) H m v d → Rep (K, [p] ++ Z) (upd H p o') m v d
  | _, _, .non => .non
  | _, _, .bl b => .bl b
  | _, _, .int i => .int i
  | _, _, .str z => .str z
  | _, _, .tup q r => .tup (by
      rcases q with (q | ⟨a, q⟩) | q
      · exact .inl (.inl (by rw [upd_ne (ne_of q h (fun z => h1 _ z.symm))]; exact q))
      · exact .inl (.inr ⟨a, by rw [upd_ne (ne_of q h (fun z => h2 _ _ z.symm))]; exact q⟩)
      · exact .inr q) (Reps.swap h h1 h2 r)
  | _, _, .lst q n z r => .lst (by rw [upd_ne (fun e => z (List.mem_append_left _ (List.mem_singleton.mpr e)))]; exact q) n z (Reps.swap h h1 h2 r)
  | _, _, .dic q n z e r => .dic (by
      have ne := fun e => z (List.mem_append_left _ (List.mem_singleton.mpr e))
      rcases q with q | ⟨a, q⟩
      · exact .inl (by rw [upd_ne ne]; exact q)
      · exact .inr ⟨a, by rw [upd_ne ne]; exact q⟩) n z e (Reps.swap h h1 h2 r)
  | _, _, .loc q => .loc q
  | _, _, .scr q n z r => .scr (by
      have ne := fun e => z (List.mem_append_left _ (List.mem_singleton.mpr e))
      rcases q with q | ⟨a, q⟩
      · exact .inl (by rw [upd_ne ne]; exact q)
      · exact .inr ⟨a, by rw [upd_ne ne]; exact q⟩) n z (Reps.swap h h1 h2 r)
  | _, _, .scrK q r => .scrK q (Reps.swap h h1 h2 r)
theorem Reps.swap {K : PySem.W.Frag} {Z : List Addr} {H : Hp} {m : List Addr} {p : Addr} {o o' : HO} (h : H p = some o) (h1 : ∀ xs, o ≠ .tup xs) (h2 : ∀ a u, o ≠ .frz a u) : ∀ {vs : List V} {ds : List D}, Reps (K, [p] ++ Z) H m vs ds → Reps (K, [p] ++ Z) (upd H p o') m vs ds
  | _, _, .nil => .nil
  | _, _, .cons r t => .cons (Rep.swap h h1 h2 r) (Reps.swap h h1 h2 t)
end
theorem Ok.swap {K : PySem.W.Frag} {Z : List Addr} {T : List Addr} {H : Hp} {m : List Addr} {S : Sto} {p : Addr} {o o' : HO} (ok : Ok (K, [p] ++ Z) T H m S) (h : H p = some o) (h1 : ∀ xs, o ≠ .tup xs) (h2 : ∀ a u, o ≠ .frz a u) (h3 : ∀ ps, o ≠ .tbl ps) (h4 : TupOk o' := by first | exact trivial | assumption | rfl) : Ok (K, [p] ++ Z) T (upd H p o') m S := by
  have np : p ∉ m := (ok.hid p (List.mem_append_left _ (List.mem_singleton.mpr rfl))).1
  refine ⟨ok.nd, ok.len, fun n a ds e1 e2 => ?_, fun n a ks ds e1 e2 => ?_, fun P hP => ?_, fun a ha => ⟨(ok.hid a ha).1, ?_⟩, ok.tp.upd h4⟩
  · obtain ⟨us, q, r⟩ := ok.lst n a ds e1 e2
    have ne : a ≠ p := fun z => np (by rw [← z]; exact List.mem_of_getElem? e1)
    exact ⟨us, by rw [upd_ne ne]; exact q, r.swap h h1 h2⟩
  · obtain ⟨us, q, e, r⟩ := ok.dic n a ks ds e1 e2
    have ne : a ≠ p := fun z => np (by rw [← z]; exact List.mem_of_getElem? e1)
    exact ⟨us, by rw [upd_ne ne]; exact q, e, r.swap h h1 h2⟩
  · obtain ⟨ps, q, r⟩ := ok.tab P hP
    exact ⟨ps, by rw [upd_ne (ne_of q h (fun z => h3 _ z.symm))]; exact q, r⟩
  · by_cases e : a = p
    · rw [e, upd_same]; intro z; cases z
    · rw [upd_ne e]; exact (ok.hid a ha).2
theorem mergeK_new : ∀ (more kvs : List (Key × V)), (kvs.map (·.1) ++ more.map (·.1)).Nodup → mergeK kvs more = kvs ++ more
  | [], kvs, _ => by simp [mergeK]
  | (k, v) :: r, kvs, h => by
    have hn : valV kvs k = none := by
      cases e : valV kvs k with
      | none => rfl
      | some x =>
        exfalso
        unfold valV at e
        obtain ⟨kv, e1, _⟩ := Option.map_eq_some_iff.mp e
        have h1 := List.find?_some e1
        have h2 := List.mem_of_find?_eq_some e1
        have h1 : kv.1 = k := of_decide_eq_true h1
        rw [List.nodup_append] at h
        exact h.2.2 kv.1 (List.mem_map.mpr ⟨kv, h2, rfl⟩) k (by simp) h1
    show mergeK (putK kvs k v) r = _
    rw [putK_new v hn, mergeK_new r (kvs ++ [(k, v)]) (by simpa using h)]
    simp
section
variable {X : Cx} {T : List Addr}
structure PPD (X : Cx) (T : List Addr) (pos : Pos) (keys : List (Option Expr)) (values : List Expr) (ks : List Key) (f : DA) : Prop where
  ex : ∃ trs, PPs X pos keys values trs ∧ ∀ σ H (Q : List (V × V) → Hp → Prop), tA X.K T f σ H (fun vs H' => Q ((ks.map kV).zip vs) H') → tPairs trs σ H Q
theorem rpNil {pos : Pos} : PPD X T pos [] [] [] dNil := ⟨[], pps_nil, fun σ H Q ⟨Z, G, S, m, ds, S', ok, en, f, q⟩ => by
  cases f
  exact q [] H m Ext.refl ok .nil⟩
theorem rpCons {pos : Pos} {k v : Expr} {keys : List (Option Expr)} {vals : List Expr} {κ : Key} {κs : List Key} {fv : DE} {f : DA} (hk : PE X k (tC (kV κ))) (hv : PE X v (tD X.K T fv)) (hr : PPD X T pos keys vals κs f) : PPD X T pos (some k :: keys) (v :: vals) (κ :: κs) (dCons fv f) := by
  obtain ⟨trs, h1, h2⟩ := hr.ex
  refine ⟨_, pps_cons hk hv h1, fun σ H Q ⟨Z, G, S, m, ds, S', ok, en, e, q⟩ => ?_⟩
  unfold dCons at e
  obtain ⟨⟨d, S1⟩, e1, e⟩ := Option.bind_eq_some_iff.mp e
  obtain ⟨⟨ds', S2⟩, e2, e⟩ := Option.bind_eq_some_iff.mp e
  cases e
  refine (show tC (kV κ) σ H _ from ?_)
  refine tD.go ok en e1 fun w H1 m1 x1 o1 en1 r1 => ?_
  refine h2 σ H1 _ ?_
  exact tA.go o1 en1 e2 fun ws H2 m2 x2 o2 _ r2 => q (w :: ws) H2 m2 (x1.trans x2) o2 (.cons (r1.mono x2 o1) r2)
def dDisp (c : Bool) (ks : List Key) (f : DA) : DE := fun G S => (f G S).bind fun p => if p.1.length = ks.length then okDic c ks p.1 p.2 else none
theorem zip_keys {vs : List V} {ks : List Key} : (ks.map kV).zip vs = (ks.zip vs).map fun kv => (kV kv.1, kv.2) := by
  rw [List.zip_map_left]
  rfl
theorem rDisp {pos : Pos} {keys : List (Option Expr)} {vals : List Expr} {κs : List Key} {c : Bool} {f : DA} (h : PPD X T pos keys vals κs f) (nd : κs.Nodup) (hall : keys.all (·.isSome) = true) (hl : keys.length = vals.length) (h0 : keys ≠ []) (h15 : keys.length ≤ 15) (hk15 : κs.length ≤ 15) :
    PE X (.Dict keys vals pos) (tD X.K T (dDisp c κs f)) := by
  obtain ⟨trs, h1, h2⟩ := h.ex
  refine peImp (pe_disp h1 hall hl h0 h15) fun σ H Q ⟨Z, G, S, m, d, S', ok, en, e, q⟩ => ?_
  unfold dDisp at e
  obtain ⟨⟨ds, S1⟩, e1, e2⟩ := Option.bind_eq_some_iff.mp e
  split at e2
  case isFalse => cases e2
  rename_i hlen
  intro p hp
  refine h2 σ (upd H p (.dK [])) _ ?_
  refine tA.go (ok.aside hp) (en.aside hp) e1 fun vs H1 m1 x1 o1 _ r1 => ?_
  have hid := o1.hid p (List.mem_append_left _ (List.mem_singleton.mpr rfl))
  have nm0 : p ∉ m := fun z => (ok.aside (o := .dK []) hp).hid p (List.mem_append_left _ (List.mem_singleton.mpr rfl)) |>.1 z
  have nT : p ∉ T := fun z => by
    obtain ⟨ps, q1, _⟩ := ok.tab p z
    rw [hp] at q1; cases q1
  have hH1 : H1 p = some (.dK []) := x1.old p _ upd_same nm0 nT
  have hvl : vs.length = κs.length := by rw [r1.len]; exact hlen
  have hzl : (κs.zip vs).length = κs.length := by rw [List.length_zip, hvl, Nat.min_self]
  have hz1 : (κs.zip vs).map (·.1) = κs := by rw [List.map_fst_zip]; omega
  have hz2 : (κs.zip vs).map (·.2) = vs := by rw [List.map_snd_zip]; omega
  refine ⟨hH1, κs.zip vs, zip_keys, by rw [hzl]; exact hk15, ?_⟩
  rw [mergeK_new _ _ (by simpa [hz1] using nd), List.nil_append]
  have nz : p ∉ Z := fun z => (ok.hid p z).2 hp
  have o2 : Ok (X.K, [p] ++ Z) T (upd H1 p (.lst [])) m1 S1 := o1.swap hH1 (fun _ z => by cases z) (fun _ _ z => by cases z) (fun _ z => by cases z)
  have r2 : Reps (X.K, [p] ++ Z) (upd H1 p (.lst [])) m1 vs ds := r1.swap hH1 (fun _ z => by cases z) (fun _ _ z => by cases z)
  have xH : ∀ (o : HO) (m2 : List Addr), (m2 = m1 ∨ m2 = m1 ++ [p]) → Ext T H m (upd H1 p o) m2 := fun o m2 hm2 => by
    have pre1 : ∃ more, m2 = m ++ more := by
      obtain ⟨r, er⟩ := x1.pre
      rcases hm2 with rfl | rfl
      · exact ⟨r, er⟩
      · exact ⟨r ++ [p], by rw [er, List.append_assoc]⟩
    refine ⟨pre1, fun a u ea hn ht => ?_, fun a ha hn ht => ?_⟩
    · have ne : a ≠ p := fun z => by rw [z, hp] at ea; cases ea
      rw [upd_ne ne]
      exact x1.old a u (by rw [upd_ne ne]; exact ea) hn ht
    · by_cases e : a = p
      · rw [e]; exact hp
      · have ha1 : a ∈ m1 := by
          rcases hm2 with rfl | rfl
          · exact ha
          · rcases List.mem_append.mp ha with z | z
            · exact z
            · exact absurd (List.mem_singleton.mp z) e
        have := x1.new a ha1 hn ht
        rwa [upd_ne e] at this
  unfold okDic at e2
  split at e2
  case isFalse => cases e2
  cases c with
  | true =>
    cases e2
    have o3 := o2.nowCell upd_same .nil hid.1 nz
    have r3 : Reps (X.K, Z) (upd H1 p (.lst [])) (m1 ++ [p]) vs ds := Reps.nowCell r2
    have e4 : (m1 ++ [p])[m1.length]? = some p := by simp
    have o4 := o3.putDic (kvs := κs.zip vs) (ks := κs) (ds := ds) e4 hz1 (by rw [hz2]; exact r3)
    rw [upd_upd] at o4
    have es : (S1 ++ [Cell.lst []]).set m1.length (Cell.dic κs ds) = S1 ++ [Cell.dic κs ds] := by
      rw [o1.len, List.set_append_right _ _ (Nat.le_refl _)]
      simp
    rw [es] at o4
    exact q _ _ (m1 ++ [p]) (xH _ _ (.inr rfl)) o4 (.loc (by rw [← o1.len]; simp))
  | false =>
    cases e2
    have o3 : Ok (X.K, [p] ++ Z) T (upd H1 p (.dK (κs.zip vs))) m1 S1 := o1.swap hH1 (fun _ z => by cases z) (fun _ _ z => by cases z) (fun _ z => by cases z)
    have r3 : Reps (X.K, [p] ++ Z) (upd H1 p (.dK (κs.zip vs))) m1 vs ds := r1.swap hH1 (fun _ z => by cases z) (fun _ _ z => by cases z)
    exact q _ _ m1 (xH _ _ (.inl rfl)) o3.bare (.dic (.inl upd_same) hid.1 nz hz1 (by rw [hz2]; exact r3.bare))
def cutD (xs : List D) (lo hi : Option Int) : List D := (xs.drop (HT.sIx xs.length 0 lo)).take (HT.sIx xs.length xs.length hi - HT.sIx xs.length 0 lo)
abbrev DO := Gam → Sto → Option (Option Int × Sto)
def tOD (K : PySem.W.Frag) (T : List Addr) (f : DO) : TO := fun σ H Q => ∃ (Z : List Addr) (G : Gam) (S : Sto) (m : List Addr) (o : Option Int) (S' : Sto), Ok (K, Z) T H m S ∧ EnvOk (K, Z) H m σ G ∧ f G S = some (o, S') ∧ ∀ H' m', Ext T H m H' m' → Ok (K, Z) T H' m' S' → Q o H'
theorem poImp {e : Option Expr} {t t' : TO} (h : PO X e t) (w : ∀ σ H Q, t' σ H Q → t σ H Q) : PO X e t' := ⟨fun pins s σ H Q I q => h.run pins s σ H Q I (w σ H Q q)⟩
def doNone : DO := fun _ S => some (none, S)
theorem roNone : PO X none (tOD X.K T doNone) := poImp po_none fun σ H Q ⟨Z, G, S, m, o, S', ok, en, f, q⟩ => by
  cases f
  exact q H m Ext.refl ok
def doSome (f : DE) : DO := fun G S => (f G S).bind fun p => match p.1 with | .int i => some (some i, p.2) | _ => none
theorem roSome {e : Expr} {f : DE} (h : PE X e (tD X.K T f)) : PO X (some e) (tOD X.K T (doSome f)) := poImp (po_some h) fun σ H Q ⟨Z, G, S, m, o, S', ok, en, f, q⟩ => by
  unfold doSome at f
  obtain ⟨⟨d, S1⟩, e1, f⟩ := Option.bind_eq_some_iff.mp f
  refine tD.go ok en e1 fun v H1 m1 x1 o1 en1 r1 => ?_
  cases d <;> cases f
  cases r1
  exact ⟨_, rfl, q H1 m1 x1 o1⟩
def lstS (S : Sto) : D → Option (List D)
  | .lst xs => some xs
  | .scr xs => some xs
  | .loc n => match S[n]? with | some (.lst xs) => some xs | _ => none
  | _ => none
theorem lstS_ok {K : PySem.W.Frag × List Addr} {T : List Addr} {H : Hp} {m : List Addr} {S : Sto} {v : V} {d : D} {ds : List D} (ok : Ok K T H m S) (r : Rep K H m v d) (e : lstS S d = some ds) : ∃ a xs, v = .ref a ∧ SqL K.1 H a xs ∧ Reps K H m xs ds := by
  unfold lstS at e
  split at e
  · cases e
    cases r with
    | lst h n _ rs => exact ⟨_, _, rfl, .inl (.inl h), rs⟩
  · cases e
    cases r with
    | scr h _ _ rs => exact ⟨_, _, rfl, .inl h, rs⟩
    | scrK h rs =>
      rcases h with (h | ⟨o, h⟩) | h
      · cases h
      · cases h
      · exact ⟨_, _, rfl, .inr h, rs⟩
  · split at e
    · rename_i es
      cases e
      cases r with
      | loc h =>
        obtain ⟨xs, q, rs⟩ := ok.lst _ _ _ h es
        exact ⟨_, _, rfl, .inl (.inl q), rs⟩
    · cases e
  · cases e
def dSlL (c : Bool) (fe : DE) (fl fh : DO) : DE := fun G S => (fe G S).bind fun p => (fl G p.2).bind fun l => (fh G l.2).bind fun h => (lstS h.2 p.1).bind fun xs => okLst c (cutD xs l.1 h.1) h.2
theorem cut_reps {K : PySem.W.Frag × List Addr} {H : Hp} {m : List Addr} {vs : List V} {ds : List D} (r : Reps K H m vs ds) (lo hi : Option Int) : Reps K H m (cutV vs lo hi) (cutD ds lo hi) := by
  unfold cutV cutD
  rw [r.len]
  exact (r.drop _).take _
theorem rSlL {e : Expr} {lo hi : Option Expr} {p2 pos : Pos} {c : Bool} {fe : DE} {fl fh : DO} (he : PE X e (tD X.K T fe)) (hl : PO X lo (tOD X.K T fl)) (hh : PO X hi (tOD X.K T fh)) : PE X (.Subscript e (.Slice lo hi none p2) pos) (tD X.K T (dSlL c fe fl fh)) := by
  refine peImp (pe_slice sl_list he hl hh) fun σ H Q ⟨Z, G, S, m, d, S', ok, en, f, q⟩ => ?_
  unfold dSlL at f
  obtain ⟨⟨d0, S1⟩, e1, f⟩ := Option.bind_eq_some_iff.mp f
  obtain ⟨⟨l, S2⟩, e2, f⟩ := Option.bind_eq_some_iff.mp f
  obtain ⟨⟨h, S3⟩, e3, f⟩ := Option.bind_eq_some_iff.mp f
  obtain ⟨ds, e4, f⟩ := Option.bind_eq_some_iff.mp f
  refine tD.go ok en e1 fun v H1 m1 x1 o1 en1 r1 => ?_
  refine ⟨Z, G, S1, m1, l, S2, o1, en1, e2, fun H2 m2 x2 o2 => ?_⟩
  refine ⟨Z, G, S2, m2, h, S3, o2, en1.mono x2 o1, e3, fun H3 m3 x3 o3 => ?_⟩
  have r3 := (r1.mono x2 o1).mono x3 o2
  obtain ⟨a, xs, rfl, hq, rs⟩ := lstS_ok o3 r3 e4
  refine ⟨a, xs, rfl, hq, fun p hp => ?_⟩
  exact newLst (Q := Q) o3 hp (cut_reps rs l h) f fun w H4 m4 x4 o4 r4 => q w H4 m4 (((x1.trans x2).trans x3).trans x4) o4 r4
theorem tD.mono {K : PySem.W.Frag} {f : DE} {σ : L2.St} {H : Hp} {Q Q' : VK} (h : tD K T f σ H Q) (w : ∀ v H, Q v H → Q' v H) : tD K T f σ H Q' := by
  obtain ⟨Z, G, S, m, d, S', ok, en, f, q⟩ := h
  exact ⟨Z, G, S, m, d, S', ok, en, f, fun v H' m' x o r => w v H' (q v H' m' x o r)⟩
def dYes : DT := fun _ S => some (true, S)
theorem rtNil {X : Cx} : PTs X [] (tB X.K T dYes) := ⟨fun pins s σ H Q I ⟨Z, G, S, m, b, S', ok, en, f, q⟩ => by
  cases f
  exact pts_nil.run pins s σ H Q I (q H m Ext.refl ok)⟩
theorem rtOne {X : Cx} {c : Expr} {t : DT} (h : PT X c (tB X.K T t)) : PTs X [c] (tB X.K T t) := pts_one h
theorem rLc {elt tg iter : Expr} {ifs : List Expr} {scope : Scope} {own : List (Str × Nat)} {pos : Pos} {c : Bool} {w : DI} {g : DG} {t : DT} {f : DE} (hc : X.calm = true) (hN : X.N.Nodup) (hi : PI X tg iter (iD X.K T w)) (ok : BlkOk X.N X.env.scope scope own)
    (hg : ∀ (s : Shared) (H : Hp) (C : Addr) (cl : List (Str × Addr)) (fp : List Addr), PG (X.blk s H scope (compEnvC scope cl C X.env) fp) tg (gD X.K T (own.map (·.2)) g)) (ht : ∀ (s : Shared) (H : Hp) (C : Addr) (cl : List (Str × Addr)) (fp : List Addr), PTs (X.blk s H scope (compEnvC scope cl C X.env) fp) ifs (tB X.K T t))
    (he : ∀ (s : Shared) (H : Hp) (C : Addr) (cl : List (Str × Addr)) (fp : List Addr), PE (X.blk s H scope (compEnvC scope cl C X.env) fp) elt (tD X.K T f)) (hs : ∀ x, foldedSetIterable iter X.env x = pure x := by intro _; rfl) :
    PE X (.ListComp elt [⟨tg, iter, ifs, 0⟩] scope pos) (tD X.K T (dLc c (own.map (·.2)) w g t f)) :=
  peImp (pe_lc hc hN hi ok hg ht he hs) openLc
theorem rSetLc {i : Nat} {y : Str} {py : Pos} {elt tg iter : Expr} {ifs : List Expr} {scope : Scope} {own : List (Str × Nat)} {pos spos : Pos} {c : Bool} {w : DI} {g : DG} {t : DT} {f : DE} (hc : X.calm = true) (hN : X.N.Nodup) (hy : X.N[i]? = some y) (hyl : X.env.scope.names.lookup y = some .local)
    (hsw : swapsWith (.ListComp elt [⟨tg, iter, ifs, 0⟩] scope pos) (some (.Name y py)) spos.line X.env = pure true) (hi : PI X tg iter (iD X.K T w)) (ok : BlkOk X.N X.env.scope scope own)
    (hg : ∀ (s : Shared) (H : Hp) (C : Addr) (cl : List (Str × Addr)) (fp : List Addr), PG (X.blk s H scope (compEnvC scope cl C X.env) fp) tg (gD X.K T (own.map (·.2)) g)) (ht : ∀ (s : Shared) (H : Hp) (C : Addr) (cl : List (Str × Addr)) (fp : List Addr), PTs (X.blk s H scope (compEnvC scope cl C X.env) fp) ifs (tB X.K T t))
    (he : ∀ (s : Shared) (H : Hp) (C : Addr) (cl : List (Str × Addr)) (fp : List Addr), PE (X.blk s H scope (compEnvC scope cl C X.env) fp) elt (tD X.K T f)) (hs : ∀ x, foldedSetIterable iter X.env x = pure x := by intro _; rfl) :
    PS X (.Assign [.Name y py] (.ListComp elt [⟨tg, iter, ifs, 0⟩] scope pos) spos) (sD X.K T (dAsg (dLc c (own.map (·.2)) w g t f) (dgName i))) := by
  refine rAsg (I := [i]) (psImp (ps_setLc hc hN hy hyl hsw hi ok hg ht he hs) fun D σ H h => ?_)
  refine openLc σ H _ (tD.mono h fun v H' hv => ?_)
  obtain ⟨Z, d, G, S, m, G', S', ok, en, r, f, q⟩ := hv
  cases f
  exact q _ H' m Ext.refl ok (en.set r) (Sl.set (List.mem_singleton.mpr rfl))
end
end Vw
set_option maxRecDepth 100000
set_option maxHeartbeats 4000000
namespace Vw
open PySem PySem.Spec PyProof.Rows L2
/-- what every frame here has -/
structure Fit (X : Cx) (k : Nat) : Prop where
  calm : X.calm = true
  nd : X.N.Nodup
  room : Room k X.A
  clr : Clr X.A
section
variable {X : Cx} {T : List Addr} {k : Nat} {a b c e o : Expr} {es : List Expr} {pos p apos cpos : Pos} {fa fb fc fe fo : DE} {fs : DA} {ta tb : DT}
theorem Fit.u (F : Fit X k) : X.A.units + 65 < cLine := by have := F.room.un; omega
theorem Fit.u64 (F : Fit X k) : X.A.units + 64 < cLine := by have := F.room.un; omega
theorem Fit.u1 (F : Fit X k) : X.A.units + 1 < cLine := by have := F.room.un; omega
theorem eName (i : Nat) {x : Str} (hN : X.N[i]? = some x) (hv : Vis X.env.scope x) (hd : (x == ("__debug__" : Str)) = false := by decide) (hcd : (x == ("__classdict__" : Str)) = false := by decide) : PE X (.Name x pos) (tD X.K T (dVar i)) := rVar (pe_var hN hv hd hcd)
theorem eInt {i : Int} {j : Nat} : PE X (.Constant (.int i) j pos) (tD X.K T (dCon (.int i))) := rCon pe_int fun _ _ _ _ _ => .int _
theorem eStr {x : Str} {j : Nat} : PE X (.Constant (.str x) j pos) (tD X.K T (dCon (.str x))) := rCon pe_str fun _ _ _ _ _ => .str _
theorem eBl {x : Bool} {j : Nat} : PE X (.Constant (.bool x) j pos) (tD X.K T (dCon (.bl x))) := rCon pe_bl fun _ _ _ _ _ => .bl _
theorem eNon {j : Nat} : PE X (.Constant .none j pos) (tD X.K T (dCon .non)) := rCon pe_non fun _ _ _ _ _ => .non
theorem eAdd (l : Bool) (ha : PE X a (tD X.K T fa)) (hb : PE X b (tD X.K T fb)) : PE X (.BinOp a .Add b pos) (tD X.K T (dBin (opAdd l) fa fb)) := rBin (pe_op opr_add ha hb) rule_add
theorem eMul (l : Bool) (ha : PE X a (tD X.K T fa)) (hb : PE X b (tD X.K T fb)) : PE X (.BinOp a .Mult b pos) (tD X.K T (dBin (opMul l) fa fb)) := rBin (pe_op opr_mul ha hb) rule_mul
theorem eMod (ha : PE X a (tD X.K T fa)) (hb : PE X b (tD X.K T fb)) : PE X (.BinOp a .Mod b pos) (tD X.K T (dBin opMod fa fb)) := rBin (pe_op op_mod ha hb) rule_mod
theorem eDiv (ha : PE X a (tD X.K T fa)) (hb : PE X b (tD X.K T fb)) : PE X (.BinOp a .FloorDiv b pos) (tD X.K T (dBin opDiv fa fb)) := rBin (pe_op op_fdiv ha hb) rule_div
theorem ePow (ha : PE X a (tD X.K T fa)) (hb : PE X b (tD X.K T fb)) : PE X (.BinOp a .Pow b pos) (tD X.K T (dBin opPow fa fb)) := rBin (pe_op op_pow ha hb) rule_pow
def opNeg : D → Sto → Option (D × Sto) := fun d S => match d with | .int i => some (.int (-i), S) | _ => none
theorem eNeg (ha : PE X a (tD X.K T fa)) : PE X (.UnaryOp .USub a pos) (tD X.K T (dUn opNeg fa)) := rUn (pe_un un_neg ha) fun Z H m S x c z S' Q ok r f q => by
  unfold opNeg at f
  split at f
  · cases f; cases r
    exact ⟨_, rfl, q _ H m Ext.refl ok (.int _)⟩
  · cases f
theorem eEq (F : Fit X k) (ha : PE X a (tD X.K T fa)) (hb : PE X b (tD X.K T fb)) : PE X (.Compare a [.Eq] [b] pos) (tD X.K T (dBin (opEq false) fa fb)) := rBin (pe_cmpR (opOr op_eq (op_eqD F.u64)) ha hb (nomark _)) rule_eq
theorem eNe (F : Fit X k) (ha : PE X a (tD X.K T fa)) (hb : PE X b (tD X.K T fb)) : PE X (.Compare a [.NotEq] [b] pos) (tD X.K T (dBin (opEq true) fa fb)) := rBin (pe_cmpR (opOr op_ne (op_neD F.u64)) ha hb (nomark _)) rule_ne
theorem eLt (ha : PE X a (tD X.K T fa)) (hb : PE X b (tD X.K T fb)) : PE X (.Compare a [.Lt] [b] pos) (tD X.K T (dBin (opCmp fun i j => decide (i < j)) fa fb)) := rBin (pe_cmpR op_lt ha hb (nomark _)) rule_cmp
theorem tEq (F : Fit X k) (ha : PE X a (tD X.K T fa)) (hb : PE X b (tD X.K T fb)) : PT X (.Compare a [.Eq] [b] pos) (tB X.K T (dCmpT (opEq false) fa fb)) := rCmpT (pt_cmpR (opOr op_eq (op_eqD F.u64)) ha hb (nomark _)) rule_eq
theorem tNe (F : Fit X k) (ha : PE X a (tD X.K T fa)) (hb : PE X b (tD X.K T fb)) : PT X (.Compare a [.NotEq] [b] pos) (tB X.K T (dCmpT (opEq true) fa fb)) := rCmpT (pt_cmpR (opOr op_ne (op_neD F.u64)) ha hb (nomark _)) rule_ne
theorem tGt (ha : PE X a (tD X.K T fa)) (hb : PE X b (tD X.K T fb)) : PT X (.Compare a [.Gt] [b] pos) (tB X.K T (dCmpT (opCmp fun i j => decide (j < i)) fa fb)) := rCmpT (pt_cmpR op_gt ha hb (nomark _)) rule_cmp
theorem tGe (ha : PE X a (tD X.K T fa)) (hb : PE X b (tD X.K T fb)) : PT X (.Compare a [.GtE] [b] pos) (tB X.K T (dCmpT (opCmp fun i j => decide (j ≤ i)) fa fb)) := rCmpT (pt_cmpR op_ge ha hb (nomark _)) rule_cmp
theorem tIn (F : Fit X k) (ha : PE X a (tD X.K T fa)) (hb : PE X b (tD X.K T fb)) (hm : behindInMarks .In b = false) : PT X (.Compare a [.In] [b] pos) (tB X.K T (dCmpT (opIn false) fa fb)) := rCmpT (pt_cmpR (opOr op_in_seq (opOr (op_inD F.u) (op_inT F.u))) ha hb hm) rule_in
theorem tNotIn (F : Fit X k) (ha : PE X a (tD X.K T fa)) (hb : PE X b (tD X.K T fb)) (hm : behindInMarks .NotIn b = false) : PT X (.Compare a [.NotIn] [b] pos) (tB X.K T (dCmpT (opIn true) fa fb)) := rCmpT (pt_cmpR (opOr op_notIn_seq (opOr (op_notInD F.u) (op_notInT F.u))) ha hb hm) rule_notIn
/-- a name, a call as a test: a truth -/
theorem tVal (ha : PE X a (tD X.K T fa)) (he : ∀ whole, isTrue a X.env whole = (do let v ← whole; standAt a.pos; holding [v] (truthy v))) : PT X a (tB X.K T (dTst fa)) := rTst ha he
theorem wOr1 (h : PT X a (tB X.K T ta)) : PW X (.BoolOp .Or [a] pos) (tB X.K T ta) := pw_or1 h
theorem wOr (h : PT X a (tB X.K T ta)) (h2 : PW X (.BoolOp .Or (b :: es) pos) (tB X.K T tb)) : PW X (.BoolOp .Or (a :: b :: es) pos) (tB X.K T (dOr ta tb)) := pwImp (pw_or h h2) openOr
def opIxS : D → D → Sto → Option (D × Sto) := fun x i S => match seqD S x, i with
  | some xs, .int k => (atI xs k).map fun d => (d, S)
  | _, _ => match x, i with
    | .str z, .int k => if z.length ≤ lim then (atI z.cps.toList k).map fun c => (.str ⟨#[c]⟩, S) else none
    | _, _ => none
def opIxD : D → D → Sto → Option (D × Sto) := fun x i S => (dicD S x).bind fun p => (keyOf i).bind fun k => (valD p.1 p.2 k).map fun d => (d, S)
theorem opIx_or {x i : D} {S S' : Sto} {z : D} (h : opIx x i S = some (z, S')) : opIxS x i S = some (z, S') ∨ opIxD x i S = some (z, S') := by
  unfold opIx at h
  split at h
  · rename_i xs k' e1
    refine .inl ?_
    unfold opIxS
    rw [e1]; exact h
  · rename_i hno
    split at h
    · refine .inl ?_
      unfold opIxS
      rename_i z' k'
      cases e : seqD S (.str z') with
      | none => exact h
      | some xs => exact absurd rfl (hno xs k' e)
    · exact .inr h
theorem rule_ixS {K : PySem.W.Frag} : Rule2 K T (rIx K) opIxS := by
  intro Z H m S x y a b z S' Q ok rx ry f q
  unfold opIxS at f
  split at f
  · rename_i xs k e1
    obtain ⟨d, e2, f⟩ := Option.map_eq_some_iff.mp f
    cases f
    cases ry
    obtain ⟨p, vs, rfl, hq, rs⟩ := seqD_ok ok rx e1
    obtain ⟨v, e3, r⟩ := atI_reps rs e2
    rcases hq with hq | hq
    · exact .inl ⟨_, _, _, _, rfl, rfl, hq, e3, q _ H m Ext.refl ok r⟩
    · exact .inr (.inl ⟨_, _, _, _, rfl, rfl, hq, e3, q _ H m Ext.refl ok r⟩)
  · split at f
    · split at f
      · rename_i hl
        obtain ⟨c, e2, f⟩ := Option.map_eq_some_iff.mp f
        cases f
        cases rx; cases ry
        exact .inr (.inr ⟨_, _, _, rfl, rfl, lim_le hl, e2, q _ H m Ext.refl ok (.str _)⟩)
      · cases f
    · cases f
theorem rule_ixD {K : PySem.W.Frag} : Rule2 K T rDG opIxD := by
  intro Z H m S x y a b z S' Q ok rx ry f q
  unfold opIxD at f
  obtain ⟨⟨ks, ds⟩, e1, f⟩ := Option.bind_eq_some_iff.mp f
  obtain ⟨k, e2, f⟩ := Option.bind_eq_some_iff.mp f
  obtain ⟨d, e3, f⟩ := Option.map_eq_some_iff.mp f
  cases f
  obtain ⟨p, kvs, rfl, h, rfl, rs⟩ := dicD_ok ok rx e1
  obtain ⟨v, e4, r⟩ := valV_reps rs e3
  have ey : y = kV k := by
    unfold keyOf at e2
    split at e2 <;> first | (cases e2; cases ry; rfl) | cases e2
  exact ⟨p, v, rfl, .inl ⟨kvs, k, h, ey, e4.symm⟩, q _ H m Ext.refl ok r⟩
theorem eIx (F : Fit X k) (ha : PE X a (tD X.K T fa)) (hb : PE X b (tD X.K T fb)) (hs : PlainIx b) : PE X (.Subscript a b pos) (tD X.K T (dBin opIx fa fb)) := by
  refine peImp (peOr (pe_ix ix_seq ha hb hs) (pe_dget F.u1 ha hb hs)) fun σ H Q h => ?_
  obtain ⟨Z, G, S, m, d, S', ok, en, f, q⟩ := h
  have f0 := f
  unfold dBin at f
  obtain ⟨⟨x, S1⟩, e1, f⟩ := Option.bind_eq_some_iff.mp f
  obtain ⟨⟨y, S2⟩, e2, f⟩ := Option.bind_eq_some_iff.mp f
  rcases opIx_or f with f | f
  · refine .inl (opened2 (op := opIxS) rule_ixS σ H Q ⟨Z, G, S, m, d, S', ok, en, ?_, q⟩)
    unfold dBin
    rw [e1]; show (fb G S1).bind _ = _
    rw [e2]; exact f
  · refine .inr (opened2 (r := rDG) (op := opIxD) rule_ixD σ H Q ⟨Z, G, S, m, d, S', ok, en, ?_, q⟩)
    unfold dBin
    rw [e1]; show (fb G S1).bind _ = _
    rw [e2]; exact f
section
variable (hg : ∀ {x : Str}, Gl X x → Gl X x)
theorem eLen (m : X.mg "len" = none) (g : Gl X "len") (ha : PA X (e :: es) (tA X.K T fs)) (he : starEach (e :: es) X.env = (false, eval e X.env) :: starEach es X.env := by rfl) (hpl : (backTo pos (starEach es X.env)).any (·.1) = false := by rfl) : PE X (.Call (.Name "len" p) (e :: es) [] pos) (tD X.K T (dCall opLen fs)) := rCall (pe_callB call_len g m boot_len ha (by decide) (by decide) he hpl) rule_len
theorem eAbs (m : X.mg "abs" = none) (g : Gl X "abs") (ha : PA X (e :: es) (tA X.K T fs)) (he : starEach (e :: es) X.env = (false, eval e X.env) :: starEach es X.env := by rfl) (hpl : (backTo pos (starEach es X.env)).any (·.1) = false := by rfl) : PE X (.Call (.Name "abs" p) (e :: es) [] pos) (tD X.K T (dCall opAbs fs)) := rCall (pe_callB call_abs g m (by decide +kernel) ha (by decide) (by decide) he hpl) rule_abs
theorem eRepr (F : Fit X k) (m : X.mg "repr" = none) (g : Gl X "repr") (ha : PA X (e :: es) (tA X.K T fs)) (he : starEach (e :: es) X.env = (false, eval e X.env) :: starEach es X.env := by rfl) (hpl : (backTo pos (starEach es X.env)).any (·.1) = false := by rfl) : PE X (.Call (.Name "repr" p) (e :: es) [] pos) (tD X.K T (dCall opRepr fs)) := rCall (pe_callB (call_repr F.clr F.u64) g m (by decide +kernel) ha (by decide) (by decide) he hpl) rule_repr
theorem eIntOf (m : X.mg "int" = none) (g : Gl X "int") (ha : PA X (e :: es) (tA X.K T fs)) (he : starEach (e :: es) X.env = (false, eval e X.env) :: starEach es X.env := by rfl) (hpl : (backTo pos (starEach es X.env)).any (·.1) = false := by rfl) : PE X (.Call (.Name "int" p) (e :: es) [] pos) (tD X.K T (dCall opInt fs)) := rCall (pe_callTy call_int1 g m (by decide +kernel) ha (by decide) (by decide) he hpl) rule_int
theorem eTupOf (m : X.mg "tuple" = none) (g : Gl X "tuple") (ha : PA X (e :: es) (tA X.K T fs)) (he : starEach (e :: es) X.env = (false, eval e X.env) :: starEach es X.env := by rfl) (hpl : (backTo pos (starEach es X.env)).any (·.1) = false := by rfl) : PE X (.Call (.Name "tuple" p) (e :: es) [] pos) (tD X.K T (dCall opTuple fs)) := rCall (pe_callTy call_madeT g m (by decide +kernel) ha (by decide) (by decide) he hpl) rule_tuple
end
end
end Vw
set_option maxRecDepth 100000
set_option maxHeartbeats 4000000
namespace Vw
open PySem PySem.Spec PyProof.Rows L2
section
variable {X : Cx} {T : List Addr} {k : Nat} {a b c e o tg it : Expr} {es : List Expr} {pos p apos cpos : Pos} {fa fb fc fe fo : DE} {fs : DA} {ta tb : DT} {st : Stmt} {rest body body2 : List Stmt} {I : List Nat} {g : DG} {gs : DGs} {w : DI} {d d2 : DS}
abbrev FewB (X : Cx) (cpos : Pos) (e : Expr) (es : List Expr) : Prop := ((backTo cpos (starEach (e :: es) X.env)).all (fun x => !x.1) && (backToKw cpos (keywordEach [] X.env)).all (fun x => x.1.isSome) && decide ((e :: es).length + ([] : List Keyword).length + (if ([] : List Keyword).isEmpty then 0 else 1) < 30)) = true
theorem eAppend (ho : PE X o (tD X.K T fo)) (ha : PA X (e :: es) (tA X.K T fs)) (h1 : attributeBase o "append" X.env (eval o X.env) = eval o X.env) (h2 : FewB X cpos e es) (h3 : (apos.endLine == cpos.line) = true) (h4 : starEach (e :: es) X.env = (false, eval e X.env) :: starEach es X.env) (h5 : (backTo cpos (starEach es X.env)).any (·.1) = false) :
    PE X (.Call (.Attribute o "append" apos) (e :: es) [] cpos) (tD X.K T (dMeth "list" opAppend fo fs)) := rMeth (pe_bm PySem.F.plainAttrs_list PySem.F.slot_list_append PySem.F.type_list_append mt_append ho ha h1 h2 h3 h4 h5) rule_append
theorem eInsert (ho : PE X o (tD X.K T fo)) (ha : PA X (e :: es) (tA X.K T fs)) (h1 : attributeBase o "insert" X.env (eval o X.env) = eval o X.env) (h2 : FewB X cpos e es) (h3 : (apos.endLine == cpos.line) = true) (h4 : starEach (e :: es) X.env = (false, eval e X.env) :: starEach es X.env) (h5 : (backTo cpos (starEach es X.env)).any (·.1) = false) :
    PE X (.Call (.Attribute o "insert" apos) (e :: es) [] cpos) (tD X.K T (dMeth "list" opInsert fo fs)) := rMeth (pe_bm PySem.F.plainAttrs_list PySem.F.slot_list_insert PySem.F.type_list_insert mt_insert ho ha h1 h2 h3 h4 h5) rule_insert
theorem ePopAt (ho : PE X o (tD X.K T fo)) (ha : PA X (e :: es) (tA X.K T fs)) (h1 : attributeBase o "pop" X.env (eval o X.env) = eval o X.env) (h2 : FewB X cpos e es) (h3 : (apos.endLine == cpos.line) = true) (h4 : starEach (e :: es) X.env = (false, eval e X.env) :: starEach es X.env) (h5 : (backTo cpos (starEach es X.env)).any (·.1) = false) :
    PE X (.Call (.Attribute o "pop" apos) (e :: es) [] cpos) (tD X.K T (dMeth "list" opPopAt fo fs)) := rMeth (pe_bm PySem.F.plainAttrs_list PySem.F.slot_list_pop PySem.F.type_list_pop mt_popAt ho ha h1 h2 h3 h4 h5) rule_popAt
def dRng1 (fs : DA) : DI := fun G S => (fs G S).bind fun p => if one1 p.1 = true then dRng fs G S else none
def dRng2 (fs : DA) : DI := fun G S => (fs G S).bind fun p => if two2 p.1 = true then dRng fs G S else none
theorem iSeq (h : PE X e (tD X.K T fe)) : PI X tg e (iD X.K T (dSeqI fe)) := rSeqI h
theorem iRng1' (m : X.mg "range" = none) (g : Gl X "range") (h : PA X [a] (tA X.K T fs)) (hs : starEach [a] X.env = [(false, eval a X.env)]) : PI X tg (.Call (.Name "range" p) [a] [] pos) (iD X.K T (dRng1 fs)) := rRngA (pi_range1 g m h hs)
theorem gName' (i : Nat) {x : Str} (hI : i ∈ I) (hN : X.N.Nodup) (hi : X.N[i]? = some x) (hx : Loc X.env.scope x) (hf : X.fn x = true ∨ X.env.scope.names.lookup x = some .local) : PG X (.Name x pos) (gD X.K T I (dgName i)) := rgName hI (pg_name hN hi hx hf)
theorem gTup' {n : Nat} {j : Nat} (hc : X.calm = true) (h : PGs X es (gsD X.K T I gs)) (hn : (assignEach es X.env).length = n) (hst : (assignEach es X.env).findIdx? (·.1) = none) : PG X (.Tuple es j pos) (gD X.K T I (dgTup n gs)) := rgTup (pg_tup hc h hn hst)
theorem gSub' (F : Fit X k) (ho : PE X o (tD X.K T fo)) (hi : PE X a (tD X.K T fa))
    (ha : ∀ v, assign (.Subscript o a pos) X.env v = (do let ov ← holding [v] (eval o X.env); let iv ← holding [v, ov] (eval a X.env); standAt pos; holding [v, ov, iv] (setItem ov iv v); release [v, ov, iv] [])) : PG X (.Subscript o a pos) (gD X.K T I (dgSub fo fa)) := rgSub (pg_sub ho hi (set_any F.u1) ha)
theorem sSet (i : Nat) {x : Str} {pos' : Pos} (hN : X.N.Nodup) (hi : X.N[i]? = some x) (hx : Loc X.env.scope x) (he : PE X e (tD X.K T fe)) (hs : swapsWith e (some (.Name x pos')) pos.line X.env = pure false) (hf : X.fn x = true ∨ X.env.scope.names.lookup x = some .local) :
    PS X (.Assign [.Name x pos'] e pos) (sD X.K T (dAsg fe (dgName i))) := rAsg (I := [i]) (psImp (ps_set hN hi hx he hs hf) fun D σ H h => tD.mono h fun v H' hv => by
  obtain ⟨Z, d, G, S, m, G', S', ok, en, r, f, q⟩ := hv
  cases f
  exact q _ H' m Ext.refl ok (en.set r) (Sl.set (List.mem_singleton.mpr rfl)))
theorem sAsg (he : PE X e (tD X.K T fe)) (hg : PG X tg (gD X.K T I g)) (hs : swapsWithSole [tg] e pos.line X.env = pure false) (hw : swappedStores [tg] e X.env = pure none) (h1 : (assignEach [tg] X.env).map (·.2) = [assign tg X.env]) : PS X (.Assign [tg] e pos) (sD X.K T (dAsg fe g)) := rAsg (ps_asg he hg hs hw h1)
theorem sPar (i j : Nat) {x y : Str} {px py pt : Pos} {kt k2 : Nat} {pt2 : Pos} (hc : X.calm = true) (hN : X.N.Nodup) (hi : X.N[i]? = some x) (hj : X.N[j]? = some y) (hij : i ≠ j)
    (hx : X.env.scope.names.lookup x = some .local) (hy : X.env.scope.names.lookup y = some .local) (ha : PA X [a, b] (tA X.K T fs))
    (hw : swappedStores [.Tuple [.Name x px, .Name y py] kt pt] (.Tuple [a, b] k2 pt2) X.env = pure (some [x, y])) (hs : swapsWithSole [.Tuple [.Name x px, .Name y py] kt pt] (.Tuple [a, b] k2 pt2) pos.line X.env = pure false) :
    PS X (.Assign [.Tuple [.Name x px, .Name y py] kt pt] (.Tuple [a, b] k2 pt2) pos) (sD X.K T (dPar i j fs)) := rPar (ps_par hc hN hi hj hij hx hy ha hw hs)
theorem sFor (hp : PassesOwn (model X.prog X.w) X.A X.env X.xe) (hc : X.calm = true) (hi : PI X tg it (iD X.K T w)) (hg : PG X tg (gD X.K T I g)) (hb : PSs X body (sD X.K T d)) (hs : ∀ x, foldedSetIterable it X.env x = pure x) : PS X (.For tg it body [] pos) (sD X.K T (dFor w g d)) := rFor (ps_for hp hc hi hg hb hs)
end
/-- a def's own context fits -/
theorem fit_cx {CX : CXT} {P : Program} {w : World} {K : PySem.W.Frag} {mg : Str → Option Value} {base : Heap} {N ps : List Str} {qual : Str} {scope : Scope} {f : Addr} {cd : Value} {A : Around} {outer : List Env} {s : Shared} {H : Hp} {E : XK} {k : Nat} (S : FnScope N ps scope) (hc : Clr A) (hr : Room k (A.deeper (envOfC qual scope s.heap.objs.size f cd))) : Fit (cxOf CX P w K mg base N qual scope f cd A outer s H E) k :=
  ⟨rfl, S.nd, hr, clr_deeper hc⟩
theorem Fit.mono {X : Cx} {j k : Nat} (F : Fit X k) (h : j ≤ k) : Fit X j := ⟨F.calm, F.nd, F.room.mono h, F.clr⟩
theorem fit_blk {X : Cx} {k : Nat} (F : Fit X k) (s : Shared) (H : Hp) (scope : Scope) (e : Env) (fp : List Addr) : Fit (X.blk s H scope e fp) k := ⟨F.calm, F.nd, F.room, F.clr⟩
end Vw
set_option maxRecDepth 100000
set_option maxHeartbeats 4000000
namespace Vw
open PySem PySem.Spec PyProof.Rows L2 GenW
def blkC (N : List Str) (sc scope : Scope) (own : List (Str × Nat)) : Bool :=
  decide (scope.kind = .function) && scope.names.all (fun y => decide (scope.names.lookup y.1 = some y.2)) && own.all (fun p => decide (N[p.2]? = some p.1)) && scope.names.all (fun y => !decide (y.2 = .free) || (decide (sc.names.lookup y.1 = some .cell) || decide (sc.names.lookup y.1 = some .free)))
    && scope.names.all (fun y => !(decide (y.2 = .local) || decide (y.2 = .cell)) || ((own.map (·.1)).contains y.1 || !N.contains y.1))
theorem blk_by {N : List Str} {sc scope : Scope} {own : List (Str × Nat)} (h : blkC N sc scope own = true) : BlkOk N sc scope own := by
  unfold blkC at h
  simp only [Bool.and_eq_true, decide_eq_true_eq, List.all_eq_true, Bool.or_eq_true, Bool.not_eq_true', decide_eq_false_iff_not, List.contains_iff_mem] at h
  obtain ⟨⟨⟨⟨h1, h2⟩, h3⟩, h4⟩, h5⟩ := h
  refine ⟨h1, h2, h3, fun y hy e => ?_, fun y hy e => ?_⟩
  · rcases h4 y hy with z | z
    · exact absurd e z
    · exact z
  · rcases h5 y hy with z | z | z
    · exact absurd e (by simpa using z)
    · exact .inl z
    · refine .inr fun q => ?_
      have : N.contains y.1 = true := List.contains_iff_mem.mpr q
      rw [this] at z; cases z
structure Cal (P : Program) (w : World) (K : PySem.W.Frag) (mg : Str → Option Value) (base : Heap) (T : List Addr) (k : Nat) (x : Str) (st : Stmt) (ps : List Str) (fn : DF) : Prop where
  ex : ∃ (f : Addr) (fd : FuncData), FnG P w K mg base (L2.CX P w) k f fd ps (spD K T ps.length fn) ∧ mg x = some (.ref f) ∧ Fun K x x st f fd ∧ Binds K fd ps []
section
variable {X : Cx} {T : List Addr} {k j : Nat} {x : Str} {st : Stmt} {ps ks : List Str} {fn : DF} {p pos : Pos} {e : Expr} {es : List Expr} {kws : List Keyword} {fa fk : DA} {np n nk : Nat} {ix : List Nat}
theorem eCal (C : Cal X.prog X.w X.K X.mg X.base T k x st ps fn) (F : Fit X j) (hk : k ≤ j) (hg : Gl X x) (ha : PA X (e :: es) (tA X.K T fa)) (hdb : (x == ("__debug__" : Str)) = false := by decide)
    (he : starEach (e :: es) X.env = (false, eval e X.env) :: starEach es X.env := by rfl) (hpl : (backTo pos (starEach es X.env)).any (·.1) = false := by rfl) (hn : ps.length = n := by rfl) : PE X (.Call (.Name x p) (e :: es) [] pos) (tD X.K T (dCallF n fa fn)) := by
  subst hn
  obtain ⟨f, fd, F1, F2, F3, F4⟩ := C.ex
  exact rCallF F1 (F.room.mono hk) F.clr hg F2 F3.kp rfl F4 ha hdb he hpl
def KwOk (x : Str) (st : Stmt) (ps ks : List Str) (np : Nat) (ix : List Nat) : Prop := ∀ (kV doc pm : Value) (an : Option Addr) (cdv ct : Value) (us ws : List Value), us.length = np → ws.length = ks.length →
  bindArgs (PySem.W.fnOf x x (defArgs st) (defBody st) (defScope st) .none kV doc pm an cdv ct) ⟨us, ks.zip ws⟩ = pure (ps.zip (pick ix (us ++ ws)))
theorem kwB_of {K : PySem.W.Frag} {f : Addr} {fd : FuncData} (F : Fun K x x st f fd) (h : KwOk x st ps ks np ix) : KwB K fd ps ks np ix := by
  obtain ⟨oc, od, kV, doc, pm, an, cdv, ct, osl, rfl, lk, hcd⟩ := F.ex
  exact ⟨fun s us ws _ hu hw => .of_eq (h kV doc pm an cdv ct us ws hu hw)⟩
theorem eCalK0 (C : Cal X.prog X.w X.K X.mg X.base T k x st ps fn) (F : Fit X j) (hk : k ≤ j) (hg : Gl X x) (hb : KwOk x st ps ks 0 ix) (ha : PKD X T kws fk) (hall : (backToKw pos (keywordEach kws X.env)).all (·.1.isSome) = true) (hks : (backToKw pos (keywordEach kws X.env)).filterMap (·.1) = ks)
    (hpl : ((backTo pos (starEach [] X.env)).any (·.1) || (backToKw pos (keywordEach kws X.env)).any (·.1.isNone)) = false) (hdb : (x == ("__debug__" : Str)) = false := by decide) (hn : ps.length = n := by rfl) (hk2 : ks.length = nk := by rfl) : PE X (.Call (.Name x p) [] kws pos) (tD X.K T (dCallW n 0 nk ix dNone fk fn)) := by
  subst hn hk2
  obtain ⟨f, fd, F1, F2, F3, F4⟩ := C.ex
  exact rCallK0 F1 (F.room.mono hk) F.clr hg F2 F3.kp rfl (kwB_of F3 hb) ha hall hks hdb hpl
end
theorem cal_of {P : Program} {w : World} {K : PySem.W.Frag} {mg : Str → Option Value} {base : Heap} {T : List Addr} {k : Nat} {x : Str} {st : Stmt} {f : Addr} {fd : FuncData} {N ps : List Str} {b : DS} (F : Fun K x x st f fd) (hm : mg x = some (.ref f)) (S : FnScope N ps (defScope st)) (hb : Binds K fd ps [])
    (body : ∀ (cdv : Value) (A : Around) (outer : List Env) (s : Shared) (H : Hp) (E : XK), fd.code = cdv → Clr A → Room k (A.deeper (envOfC x (defScope st) s.heap.objs.size f cdv)) → PSs (cxOf (L2.CX P w) P w K mg base N x (defScope st) f cdv A outer s H E) (defBody st) (sD K T b)) :
    Cal P w K mg base T (k + 1) x st ps (dDef N.length b) := ⟨f, fd, fnG_D F S body, hm, F, hb⟩
end Vw
set_option maxRecDepth 100000
set_option maxHeartbeats 4000000
namespace Vw
open PySem PySem.Spec L2
def d_lawbag : DS :=
    (dSeq (dPar 1 2 (dCons (dLc false [3] (dSeqI (dSlL false (dVar 0) doNone (doSome (dCon (.int 63))))) (dgName 3) dYes (dBin (opAdd false) (dBin (opMul false) (dCon (.int 2)) (dCall opAbs (dCons (dVar 3) dNil))) (dCall opInt (dCons (dBin (opCmp fun i j => decide (i < j)) (dVar 3) (dCon (.int 0))) dNil)))) (dCons (dBin (opAdd false) (dCon (.int 15803)) (dCall opLen (dCons (dVar 0) dNil))) dNil)))
    (dSeq (dFor (dSeqI (dVar 1)) (dgName 3)
    (dSeq (dAsg (dBin opMod (dCall opInt (dCons (dBin (opAdd false) (dBin (opAdd false) (dBin (opMul false) (dVar 2) (dCon (.int 48271))) (dVar 3)) (dCon (.int 11))) dNil)) (dCon (.int 4294967291))) (dgName 2))
    dSkip))
    (dSeq (dRet (dDisp true [.inr ("far" : Str), .inr ("stirred" : Str), .inr ("turn" : Str)] (dCons (dLc true [3] (dSeqI (dVar 1)) (dgName 3) (dCmpT (opCmp fun i j => decide (j ≤ i)) (dVar 3) (dBin opPow (dCon (.int 10)) (dCon (.int 15)))) (dVar 3)) (dCons (dVar 2) (dCons (dCon (.int 0)) dNil)))))
    dSkip)))
def fn_lawbag : DF := dDef 4 d_lawbag
def d_lawdraw : DS :=
    (dSeq (dAsg (dBin opIx (dVar 0) (dCon (.str ("far" : Str)))) (dgName 2))
    (dSeq (dIte (dCmpT (opEq true) (dVar 2) (dLst false dNil))
    (dSeq (dAsg (dMeth "list" opPopAt (dVar 2) (dCons (dCon (.int 0)) dNil)) (dgName 3))
    (dSeq (dIte (dCmpT (opCmp fun i j => decide (j ≤ i)) (dVar 3) (dVar 1))
    (dSeq (dExpr (dMeth "list" opInsert (dVar 2) (dCons (dCon (.int 0)) (dCons (dBin opDiv (dVar 3) (dVar 1)) dNil))))
    dSkip) dSkip)
    (dSeq (dRet (dBin opMod (dCall opInt (dCons (dVar 3) dNil)) (dVar 1)))
    dSkip))) dSkip)
    (dSeq (dAsg (dBin (opAdd false) (dBin opIx (dVar 0) (dCon (.str ("turn" : Str)))) (dCon (.int 1))) (dgSub (dVar 0) (dCon (.str ("turn" : Str)))))
    (dSeq (dAsg (dBin opIx (dVar 0) (dCon (.str ("turn" : Str)))) (dgName 4))
    (dSeq (dAsg (dBin opMod (dCall opInt (dCons (dBin (opAdd false) (dBin (opAdd false) (dBin (opMul false) (dBin opIx (dVar 0) (dCon (.str ("stirred" : Str)))) (dCon (.int 69621))) (dBin (opMul false) (dBin (opMul false) (dVar 4) (dVar 4)) (dCon (.int 7)))) (dBin (opMul false) (dCon (.int 104729)) (dVar 4))) dNil)) (dCon (.int 4294967279))) (dgName 5))
    (dSeq (dAsg (dBin opMod (dCall opInt (dCons (dBin (opAdd false) (dBin (opMul false) (dVar 5) (dCon (.int 48271))) (dBin opDiv (dVar 5) (dCon (.int 65536)))) dNil)) (dCon (.int 4294967291))) (dgName 5))
    (dSeq (dAsg (dVar 5) (dgSub (dVar 0) (dCon (.str ("stirred" : Str)))))
    (dSeq (dRet (dBin opMod (dCall opInt (dCons (dBin opDiv (dVar 5) (dCon (.int 1024))) dNil)) (dVar 1)))
    dSkip))))))))
def fn_lawdraw : DF := dDef 6 d_lawdraw
def d_lawpick : DS :=
    (dSeq (dRet (dBin opIx (dVar 1) (dCallF 2 (dCons (dVar 0) (dCons (dCall opLen (dCons (dVar 1) dNil)) dNil)) fn_lawdraw)))
    dSkip)
def fn_lawpick : DF := dDef 2 d_lawpick
theorem pys_ints (fl : Nat → Option PyData) : ∀ xs : List Int, toPs fl (xs.map D.int) = some (xs.map PyData.int)
  | [] => rfl
  | x :: xs => by
    show (toP fl (.int x)).bind _ = _
    rw [show toP fl (.int x) = some (.int x) from rfl]
    show (toPs fl (xs.map D.int)).map _ = _
    rw [pys_ints fl xs]; rfl
theorem lay_ints : ∀ xs : List Int, PyData.canLayAll0 (xs.map PyData.int) = true
  | [] => rfl
  | x :: xs => by
    show (PyData.canLay0 (.int x) && PyData.canLayAll0 (xs.map PyData.int)) = true
    rw [lay_ints xs]; rfl
theorem dep_ints : ∀ xs : List Int, PyData.depthAll (xs.map PyData.int) = 0
  | [] => rfl
  | x :: xs => by
    show max (PyData.depth (.int x)) (PyData.depthAll (xs.map PyData.int)) = 0
    rw [dep_ints xs]; rfl
theorem shaped_ints (xs : List Int) : SeqAt.shaped (.list (xs.map PyData.int)) = true := by
  unfold SeqAt.shaped
  have h1 : PyData.canLay0 (.list (xs.map PyData.int)) = true := lay_ints xs
  have h2 : PyData.depth (.list (xs.map PyData.int)) = 1 := by
    show PyData.depthAll (xs.map PyData.int) + 1 = 1
    rw [dep_ints xs]
  rw [h1, h2]; rfl
theorem ne_nil_ints {S : Sto} {n : Nat} {xs : List Int} (h : S[n]? = some (Cell.lst (xs.map D.int))) : opEq true (.loc n) (.lst []) S = some (.bl (!xs.isEmpty), S) := by
  unfold opEq eqD
  rw [show eqS (.loc n) (.lst []) = none from rfl]
  show (eqP S (.loc n) (.lst [])).map _ = _
  unfold eqP
  have e1 : pyOf S (.loc n) = some (.list (xs.map PyData.int)) := by
    show cell1 (cell1 noCell S) S n = _
    unfold cell1
    rw [h]
    show (toPs _ (xs.map D.int)).map _ = _
    rw [pys_ints]; rfl
  have e2 : pyOf S (.lst []) = some (.list []) := rfl
  rw [e1, e2]
  simp only [Option.bind_some]
  rw [shaped_ints, show SeqAt.shaped (.list []) = true from shaped_ints []]
  cases xs with
  | nil => rfl
  | cons x xs => rfl
def KB : List Key := [.inr ("far" : Str), .inr ("stirred" : Str), .inr ("turn" : Str)]
structure Bag (n : Nat) (S : Sto) : Prop where
  ex : ∃ (far : List Int) (st tu : Int) (rest : Sto), S = Cell.lst (far.map D.int) :: Cell.dic KB [.loc 0, .int st, .int tu] :: rest ∧ (∀ x ∈ far, 0 ≤ x) ∧ far.length ≤ 1000 ∧ 0 ≤ st ∧ st < 2 ^ 33 ∧ 0 ≤ tu ∧ tu ≤ n
theorem Bag.mono {n n' : Nat} {S : Sto} (b : Bag n S) (h : n ≤ n') : Bag n' S := by
  obtain ⟨far, st, tu, rest, h1, h2, h3, h4, h5, h6, h7⟩ := b
  exact ⟨far, st, tu, rest, h1, h2, h3, h4, h5, h6, by omega⟩
end Vw
set_option maxRecDepth 100000
set_option maxHeartbeats 4000000
namespace Vw
open PySem PySem.Spec L2
theorem mul_small {i j : Int} {c : Bool} {S : Sto} (h : small i = true ∨ small j = true) : opMul c (.int i) (.int j) S = some (.int (i * j), S) := by
  show (if small i = true ∨ small j = true then _ else _) = _
  rw [if_pos h]
theorem small_of {i : Int} (h : -(2 ^ 64) < i ∧ i < 2 ^ 64) : small i = true := by
  unfold small; simp only [Bool.and_eq_true, decide_eq_true_eq]; exact h
theorem add_int {c : Bool} {i j : Int} {S : Sto} : opAdd c (.int i) (.int j) S = some (.int (i + j), S) := rfl
theorem sub_int' {i j : Int} {S : Sto} : opSub (.int i) (.int j) S = some (.int (i - j), S) := rfl
theorem mod_int {i j : Int} {S : Sto} (h : 0 < j) : opMod (.int i) (.int j) S = some (.int (i % j), S) := if_pos h
theorem div_int {i j : Int} {S : Sto} (h : 0 < j) (h2 : j < 1073741824) : opDiv (.int i) (.int j) S = some (.int (i / j), S) := if_pos ⟨h, h2⟩
theorem int_int {i : Int} {S : Sto} : opInt [.int i] S = some (.int i, S) := rfl
abbrev bagS (F : List D) (st tu : Int) (rest : Sto) : Sto := Cell.lst F :: Cell.dic KB [.loc 0, .int st, .int tu] :: rest
section
variable {F : List D} {st tu v : Int} {rest : Sto}
theorem get_far : opIx (.loc 1) (.str ("far" : Str)) (bagS F st tu rest) = some (.loc 0, bagS F st tu rest) := rfl
theorem get_st : opIx (.loc 1) (.str ("stirred" : Str)) (bagS F st tu rest) = some (.int st, bagS F st tu rest) := rfl
theorem get_tu : opIx (.loc 1) (.str ("turn" : Str)) (bagS F st tu rest) = some (.int tu, bagS F st tu rest) := rfl
theorem put_tu : opPut (.loc 1) (.str ("turn" : Str)) (.int v) (bagS F st tu rest) = some (bagS F st v rest) := rfl
theorem put_st : opPut (.loc 1) (.str ("stirred" : Str)) (.int v) (bagS F st tu rest) = some (bagS F v tu rest) := rfl
end
def mixD (st tu : Int) : Int := ((st * 69621 + (tu + 1) * (tu + 1) * 7 + 104729 * (tu + 1)) % 4294967279 * 48271 + (st * 69621 + (tu + 1) * (tu + 1) * 7 + 104729 * (tu + 1)) % 4294967279 / 65536) % 4294967291
theorem draw_nil {n : Nat} {size : Int} {st tu : Int} {rest : Sto}  (h0 : 0 < size) (h1 : size < 1000000) (hs0 : 0 ≤ st) (hs1 : st < 2 ^ 33) (ht0 : 0 ≤ tu) (ht1 : tu ≤ n) (hn : n ≤ 1000000) :
   ∃ st' : Int, fn_lawdraw [.loc 1, .int size] (bagS [] st tu rest) = some (.int ((st' / 1024) % size), bagS [] st' (tu + 1) rest) ∧ 0 ≤ st' ∧ st' < 2 ^ 33 := by
  have hne : opEq true (.loc 0) (.lst []) (bagS [] st tu rest) = some (.bl false, bagS [] st tu rest) := ne_nil_ints (xs := []) rfl
  have m1 : ∀ S, opMul false (.int st) (.int 69621) S = some (.int (st * 69621), S) := fun S => mul_small (.inl (small_of (by omega)))
  have m2 : ∀ S, opMul false (.int (tu + 1)) (.int (tu + 1)) S = some (.int ((tu + 1) * (tu + 1)), S) := fun S => mul_small (.inl (small_of (by omega)))
  have m3 : ∀ S, opMul false (.int ((tu + 1) * (tu + 1))) (.int 7) S = some (.int ((tu + 1) * (tu + 1) * 7), S) := fun S => mul_small (.inr (by decide))
  have m4 : ∀ S, opMul false (.int 104729) (.int (tu + 1)) S = some (.int (104729 * (tu + 1)), S) := fun S => mul_small (.inl (by decide))
  have m5 : ∀ x S, opMul false (.int x) (.int 48271) S = some (.int (x * 48271), S) := fun x S => mul_small (.inr (by decide))
  have d1 : ∀ x S, opMod (.int x) (.int 4294967279) S = some (.int (x % 4294967279), S) := fun x S => mod_int (by decide)
  have d2 : ∀ x S, opMod (.int x) (.int 4294967291) S = some (.int (x % 4294967291), S) := fun x S => mod_int (by decide)
  have d3 : ∀ x S, opMod (.int x) (.int size) S = some (.int (x % size), S) := fun x S => mod_int h0
  have e1 : ∀ x S, opDiv (.int x) (.int 65536) S = some (.int (x / 65536), S) := fun x S => div_int (by decide) (by decide)
  have e2 : ∀ x S, opDiv (.int x) (.int 1024) S = some (.int (x / 1024), S) := fun x S => div_int (by decide) (by decide)
  refine ⟨mixD st tu, ?_, ?_, ?_⟩
  · unfold fn_lawdraw d_lawdraw dDef
    simp only [dSeq, dAsg, dgName, dBin, dVar, dCon, dIte, dCmpT, dTst, dLst, dNil, okLst, dSkip, dgSub, dCall, dCons, dRet, List.map_cons, List.map_nil, List.length_cons, List.length_nil, List.cons_append, List.nil_append, List.replicate, Option.bind_some, Option.map_some, List.getElem?_cons_zero, List.getElem?_cons_succ, List.set_cons_zero, List.set_cons_succ,
      get_far, get_tu, get_st, put_tu, put_st, hne, add_int, int_int, m1, m2, m3, m4, m5, d1, d2, d3, e1, e2, Nat.zero_le, if_true, Bool.false_eq_true, if_false]
    rfl
  · exact Int.emod_nonneg _ (by decide)
  · have h : mixD st tu < 4294967291 := Int.emod_lt_of_pos _ (by decide)
    omega
theorem draw_cons {size x : Int} {st tu : Int} {far : List Int} {rest : Sto} (h0 : 0 < size) (h1 : size < 1000000) (hl : far.length < 1000) :
   fn_lawdraw [.loc 1, .int size] (bagS ((x :: far).map D.int) st tu rest) = some (.int (x % size), bagS ((if size ≤ x then x / size :: far else far).map D.int) st tu rest) := by
  have hne : opEq true (.loc 0) (.lst []) (bagS (D.int x :: far.map D.int) st tu rest) = some (.bl true, bagS (D.int x :: far.map D.int) st tu rest) := ne_nil_ints (xs := x :: far) rfl
  have hp : opPopAt (.loc 0) [.int 0] (bagS (D.int x :: far.map D.int) st tu rest) = some (.int x, bagS (far.map D.int) st tu rest) := rfl
  have ht : ∀ F, tyD "list" (bagS F st tu rest) (.loc 0) = true := fun F => rfl
  have d3 : ∀ x S, opMod (.int x) (.int size) S = some (.int (x % size), S) := fun x S => mod_int h0
  have e1 : ∀ x S, opDiv (.int x) (.int size) S = some (.int (x / size), S) := fun x S => div_int h0 (by omega)
  have hi : ∀ y, opInsert (.loc 0) [.int 0, .int y] (bagS (far.map D.int) st tu rest) = some (.non, bagS (D.int y :: far.map D.int) st tu rest) := fun y => by
    show (if (0 : Int) ≤ 0 ∧ (0 : Int) < 1000000000 ∧ (far.map D.int).length < lim then _ else _) = _
    rw [if_pos ⟨by decide, by decide, by rw [List.length_map]; show far.length < 1000000; omega⟩]
    rfl
  have c1 : ∀ S, opCmp (fun i j => decide (j ≤ i)) (.int x) (.int size) S = some (.bl (decide (size ≤ x)), S) := fun S => rfl
  unfold fn_lawdraw d_lawdraw dDef
  by_cases hx : size ≤ x
  · simp only [dSeq, dAsg, dgName, dBin, dVar, dCon, dIte, dCmpT, dTst, dLst, dNil, okLst, dSkip, dgSub, dCall, dCons, dRet, dMeth, dExpr, List.map_cons, List.map_nil, List.length_cons, List.length_nil, List.cons_append, List.nil_append, List.replicate, Option.bind_some, Option.map_some, List.getElem?_cons_zero, List.getElem?_cons_succ, List.set_cons_zero, List.set_cons_succ,
      get_far, hne, hp, ht, hi, c1, hx, int_int, d3, e1, Nat.zero_le, if_true, Bool.false_eq_true, if_false, decide_true]
  · simp only [dSeq, dAsg, dgName, dBin, dVar, dCon, dIte, dCmpT, dTst, dLst, dNil, okLst, dSkip, dgSub, dCall, dCons, dRet, dMeth, dExpr, List.map_cons, List.map_nil, List.length_cons, List.length_nil, List.cons_append, List.nil_append, List.replicate, Option.bind_some, Option.map_some, List.getElem?_cons_zero, List.getElem?_cons_succ, List.set_cons_zero, List.set_cons_succ,
      get_far, hne, hp, ht, hi, c1, hx, int_int, d3, e1, Nat.zero_le, if_true, Bool.false_eq_true, if_false, decide_false]
theorem draw_ok {n : Nat} {S : Sto} {size : Int} (b : Bag n S) (hn : n ≤ 1000000) (h0 : 0 < size) (h1 : size < 1000000) :
    ∃ (r : Int) (S' : Sto), fn_lawdraw [.loc 1, .int size] S = some (.int r, S') ∧ 0 ≤ r ∧ r < size ∧ Bag (n + 1) S' ∧ S'.length = S.length ∧ S'.drop 2 = S.drop 2 := by
  obtain ⟨far, st, tu, rest, rfl, hf, hl, hs0, hs1, ht0, ht1⟩ := b
  cases far with
  | nil =>
    obtain ⟨st', e, q0, q1⟩ := draw_nil (rest := rest) h0 h1 hs0 hs1 ht0 ht1 hn
    exact ⟨_, _, e, Int.emod_nonneg _ (by omega), Int.emod_lt_of_pos _ h0, ⟨[], st', tu + 1, rest, rfl, (fun x hx => by cases hx), Nat.zero_le _, q0, q1, by omega, by omega⟩, rfl, rfl⟩
  | cons x far =>
    have hl' : far.length < 1000 := by rw [List.length_cons] at hl; omega
    have hx0 := hf x List.mem_cons_self
    refine ⟨_, _, draw_cons (st := st) (tu := tu) (rest := rest) h0 h1 hl', Int.emod_nonneg _ (by omega), Int.emod_lt_of_pos _ h0, ⟨_, st, tu, rest, rfl, fun y hy => ?_, ?_, hs0, hs1, ht0, by omega⟩, rfl, rfl⟩
    · split at hy
      · rcases List.mem_cons.mp hy with rfl | hy
        · exact Int.ediv_nonneg hx0 (by omega)
        · exact hf y (List.mem_cons_of_mem _ hy)
      · exact hf y (List.mem_cons_of_mem _ hy)
    · split
      · rw [List.length_cons]; omega
      · omega
end Vw
set_option maxRecDepth 100000
set_option maxHeartbeats 4000000
namespace Vw
open PySem PySem.Spec L2
theorem for_inv {src : Src} {g : DG} {b : DS} {ds : List D} (I : Nat → Gam → Sto → Prop) (hsrc : ∀ i G S, I i G S → src i S = some ds[i]?)
    (step : ∀ i G S d, ds[i]? = some d → I i G S → ∃ G1 S1 G2 S2, g d G S = some (G1, S1) ∧ b G1 S1 = some (.nx, G2, S2) ∧ I (i + 1) G2 S2) :
    ∀ (k i : Nat) (G : Gam) (S : Sto), i + k = ds.length → I i G S → ∃ G' S', dLoop src g b (k + 1) i G S = some (.nx, G', S') ∧ I ds.length G' S' := by
  intro k
  induction k with
  | zero =>
    intro i G S hi h
    have e : ds[i]? = none := List.getElem?_eq_none (by omega)
    refine ⟨G, S, ?_, by have : i = ds.length := by omega
                         rw [← this]; exact h⟩
    unfold dLoop
    rw [hsrc i G S h, e]; rfl
  | succ k ih =>
    intro i G S hi h
    obtain ⟨d, e⟩ : ∃ d, ds[i]? = some d := ⟨ds[i]'(by omega), List.getElem?_eq_getElem _⟩
    obtain ⟨G1, S1, G2, S2, h1, h2, h3⟩ := step i G S d e h
    obtain ⟨G', S', h4, h5⟩ := ih (i + 1) G2 S2 (by omega) h3
    refine ⟨G', S', ?_, h5⟩
    unfold dLoop
    rw [hsrc i G S h, e]
    simp only [Option.bind_some, h1, h2, h4]
theorem lc_inv {src : Src} {g : DG} {t : DT} {f : DE} {G : Gam} {ds : List D} (I : Nat → Sto → List D → Prop) (hsrc : ∀ i S acc, I i S acc → src i S = some ds[i]?)
    (step : ∀ i S acc d, ds[i]? = some d → I i S acc → ∃ G1 S1 b S2, g d G S = some (G1, S1) ∧ t G1 S1 = some (b, S2) ∧ (b = true → ∃ v S3, f G1 S2 = some (v, S3) ∧ I (i + 1) S3 (acc ++ [v])) ∧ (b = false → I (i + 1) S2 acc)) :
    ∀ (k i : Nat) (S : Sto) (acc : List D), i + k = ds.length → I i S acc → ∃ out S', dLcLoop src g t f G (k + 1) i S acc = some (out, S') ∧ I ds.length S' out := by
  intro k
  induction k with
  | zero =>
    intro i S acc hi h
    have e : ds[i]? = none := List.getElem?_eq_none (by omega)
    refine ⟨acc, S, ?_, by have : i = ds.length := by omega
                           rw [← this]; exact h⟩
    unfold dLcLoop
    rw [hsrc i S acc h, e]; rfl
  | succ k ih =>
    intro i S acc hi h
    obtain ⟨d, e⟩ : ∃ d, ds[i]? = some d := ⟨ds[i]'(by omega), List.getElem?_eq_getElem _⟩
    obtain ⟨G1, S1, b, S2, h1, h2, h3, h4⟩ := step i S acc d e h
    cases b with
    | true =>
      obtain ⟨v, S3, h5, h6⟩ := h3 rfl
      obtain ⟨out, S', h7, h8⟩ := ih (i + 1) S3 (acc ++ [v]) (by omega) h6
      refine ⟨out, S', ?_, h8⟩
      unfold dLcLoop
      rw [hsrc i S acc h, e]
      simp only [Option.bind_some, h1, h2, if_true, h5, h7]
    | false =>
      obtain ⟨out, S', h7, h8⟩ := ih (i + 1) S2 acc (by omega) (h4 rfl)
      refine ⟨out, S', ?_, h8⟩
      unfold dLcLoop
      rw [hsrc i S acc h, e]
      simp only [Option.bind_some, h1, h2, Bool.false_eq_true, if_false, h7]
structure Keep (S S' : Sto) : Prop where
  len : S.length ≤ S'.length
  at_ : ∀ i, 2 ≤ i → i < S.length → S'[i]? = S[i]?
theorem Keep.refl {S : Sto} : Keep S S := ⟨Nat.le_refl _, fun _ _ _ => rfl⟩
theorem Keep.trans {S S' S'' : Sto} (a : Keep S S') (b : Keep S' S'') : Keep S S'' := ⟨Nat.le_trans a.len b.len, fun i h1 h2 => (b.at_ i h1 (Nat.lt_of_lt_of_le h2 a.len)).trans (a.at_ i h1 h2)⟩
theorem Keep.of_drop {S S' : Sto} (hl : S'.length = S.length) (hd : S'.drop 2 = S.drop 2) : Keep S S' := by
  refine ⟨by omega, fun i h1 h2 => ?_⟩
  have e := congrArg (fun l => l[i - 2]?) hd
  simp only [List.getElem?_drop] at e
  rw [show 2 + (i - 2) = i by omega] at e
  exact e
theorem Keep.push {S : Sto} {c : Cell} : Keep S (S ++ [c]) := ⟨by simp, fun i _ h2 => List.getElem?_append_left h2⟩
theorem Keep.put {S0 S : Sto} {a : Nat} {c : Cell} (k : Keep S0 S) (h : S0.length ≤ a) : Keep S0 (S.set a c) := ⟨by simp [k.len], fun i h1 h2 => by rw [List.getElem?_set_ne (by omega)]; exact k.at_ i h1 h2⟩
theorem Bag.push {n : Nat} {S : Sto} (b : Bag n S) {c : Cell} : Bag n (S ++ [c]) := by
  obtain ⟨far, st, tu, rest, rfl, h⟩ := b
  exact ⟨far, st, tu, rest ++ [c], rfl, h⟩
theorem Bag.put {n a : Nat} {S : Sto} (b : Bag n S) {c : Cell} (h : 2 ≤ a) : Bag n (S.set a c) := by
  obtain ⟨far, st, tu, rest, rfl, h'⟩ := b
  obtain ⟨a, rfl⟩ : ∃ j, a = j + 2 := ⟨a - 2, by omega⟩
  exact ⟨far, st, tu, rest.set a c, rfl, h'⟩
theorem draw_k {n : Nat} {S : Sto} {size : Int} (b : Bag n S) (hn : n ≤ 1000000) (h0 : 0 < size) (h1 : size < 1000000) : ∃ (r : Nat) (S' : Sto), fn_lawdraw [.loc 1, .int size] S = some (.int r, S') ∧ (r : Int) < size ∧ Bag (n + 1) S' ∧ S'.length = S.length ∧ Keep S S' := by
  obtain ⟨r, S', e, h2, h3, h4, h5, h6⟩ := draw_ok b hn h0 h1
  refine ⟨r.toNat, S', ?_, by omega, h4, h5, Keep.of_drop h5 h6⟩
  rw [Int.toNat_of_nonneg h2]; exact e
theorem atI_nn {α : Type} {xs : List α} {r : Nat} (h : r < xs.length) : atI xs (r : Int) = some xs[r] := by
  unfold atI ixN
  rw [if_pos (by omega), if_pos (by omega)]
  simp
theorem pick_ok {n : Nat} {S : Sto} {ds : List D} {x : D} (b : Bag n S) (hn : n ≤ 1000000) (hx : ∀ S, seqD S x = some ds) (h0 : 0 < ds.length) (h1 : ds.length < 1000000) :
    ∃ (r : Nat) (h : r < ds.length) (S' : Sto), fn_lawpick [.loc 1, x] S = some (ds[r], S') ∧ Bag (n + 1) S' ∧ S'.length = S.length ∧ Keep S S' := by
  obtain ⟨r, S', e, h2, h4, h5, h6⟩ := draw_k (size := ds.length) b hn (by omega) (by omega)
  have hr : r < ds.length := by omega
  refine ⟨r, hr, S', ?_, h4, h5, h6⟩
  have hlen : opLen [x] S = some (.int ds.length, S) := by
    show (match seqD S x with | some xs => _ | none => _) = _
    rw [hx S]
  have hix : opIx x (.int r) S' = some (ds[r], S') := by
    unfold opIx
    rw [hx S']
    show (atI ds (r : Int)).map _ = _
    rw [atI_nn hr]; rfl
  unfold fn_lawpick d_lawpick dDef
  simp only [dSeq, dAsg, dgName, dBin, dVar, dCon, dIte, dCmpT, dTst, dLst, dNil, okLst, dSkip, dgSub, dCall, dCons, dRet, dMeth, dExpr, dCallF, dPar, dTup, dIf, dAndV, dOrV, dAnd, dOr, dNot, dNotV, dgTup, dgCons, dgNil, dRng1, dRng2, one1, two2, List.map_cons, List.map_nil, List.length_cons, List.length_nil, List.cons_append, List.nil_append, List.replicate, Option.bind_some, Option.map_some, List.getElem?_cons_zero, List.getElem?_cons_succ, List.set_cons_zero, List.set_cons_succ, if_true, Bool.false_eq_true, if_false, int_int, add_int, sub_int', Nat.zero_le, Nat.reduceAdd, Nat.reduceSub, decide_true, decide_false, Nat.reduceEqDiff, hlen, e, hix]
end Vw
set_option maxRecDepth 100000
set_option maxHeartbeats 4000000
namespace Vw
open PySem PySem.Spec L2
abbrev intL (xs : List Int) : List D := xs.map D.int
theorem intL_get {xs : List Int} {i : Nat} (h : i < xs.length) : (intL xs)[i]? = some (.int xs[i]) := by
  show (xs.map D.int)[i]? = _
  rw [List.getElem?_map, List.getElem?_eq_getElem h]; rfl
theorem seqD_loc {S : Sto} {n : Nat} {ds : List D} (h : S[n]? = some (Cell.lst ds)) : seqD S (.loc n) = some ds := by
  show (match S[n]? with | some (.lst xs) => some xs | _ => none) = _
  rw [h]
theorem tyD_loc {S : Sto} {n : Nat} {ds : List D} (h : S[n]? = some (Cell.lst ds)) : tyD "list" S (.loc n) = true := by
  show ("list" == "list" && (match S[n]? with | some (.lst xs) => some xs | _ => none).isSome) = true
  rw [h]; rfl
theorem len_seq {S : Sto} {x : D} {ds : List D} (h : seqD S x = some ds) : opLen [x] S = some (.int ds.length, S) := by
  show (match seqD S x with | some xs => _ | none => _) = _
  rw [h]
theorem app_loc {S : Sto} {n : Nat} {ds : List D} {d : D} (h : S[n]? = some (Cell.lst ds)) (hb : ds.length < 1000000) : opAppend (.loc n) [d] S = some (.non, S.set n (Cell.lst (ds ++ [d]))) := by
  show (match S[n]? with | some (Cell.lst ds) => (if ds.length < lim then some (D.non, S.set n (Cell.lst (ds ++ [d]))) else none) | _ => none) = _
  rw [h]
  exact if_pos hb
theorem okc {xs : List D} {S : Sto} (h : xs.length ≤ 1000000) : okLst true xs S = some (.loc S.length, S ++ [Cell.lst xs]) := by
  unfold okLst; rw [if_pos (show xs.length ≤ lim from h), if_pos rfl]
theorem okv {xs : List D} {S : Sto} (h : xs.length ≤ 1000000) : okLst false xs S = some (.lst xs, S) := by
  unfold okLst; rw [if_pos (show xs.length ≤ lim from h), if_neg Bool.false_ne_true]
theorem okt {xs : List D} {S : Sto} (h : xs.length ≤ 1000000) : okTup xs S = some (.tup xs, S) := by
  unfold okTup; rw [if_pos (show xs.length ≤ lim from h)]
theorem tuple_of {S : Sto} {x : D} {ds : List D} (h : seqD S x = some ds) (hb : ds.length ≤ 1000000) : opTuple [x] S = some (.tup ds, S) := by
  show (seqD S x).bind _ = _
  rw [h]; exact okt hb
end Vw
set_option maxRecDepth 100000
set_option maxHeartbeats 4000000
namespace Vw
open PySem PySem.Spec L2
theorem rngD_len (k : Nat) : (rngD 0 (k : Int)).length = k := by
  unfold rngD; simp
theorem rngD_get {k i : Nat} (h : i < k) : (rngD 0 (k : Int))[i]? = some (.int i) := by
  unfold rngD
  rw [List.getElem?_map, List.getElem?_range (by omega)]
  simp
theorem rng1_ok {fs : DA} {k : Nat} {G : Gam} {S : Sto} (h : fs G S = some ([.int k], S)) (hk : k ≤ 1000000) : dRng1 fs G S = some (fixS (rngD 0 (k : Int)), k + 1, S) := by
  unfold dRng1 dRng
  rw [h]
  simp only [Option.bind_some, one1, if_true]
  rw [if_pos (by omega), rngD_len]
/-- all but i -/
def others (k i : Nat) : List Int := ((List.range k).filter fun j => decide (j ≠ i)).map fun (j : Nat) => (j : Int)
theorem others_succ (k i : Nat) : others (k + 1) i = others k i ++ (if k = i then [] else [(k : Int)]) := by
  unfold others
  rw [List.range_succ, List.filter_append, List.map_append]
  by_cases h : k = i <;> simp [h]
theorem others_len (k i : Nat) : (others k i).length ≤ k := by
  unfold others
  rw [List.length_map]
  exact Nat.le_trans (List.length_filter_le _ _) (by simp)
theorem ne_int {i j : Int} {S : Sto} : opEq true (.int i) (.int j) S = some (.bl (!decide (i = j)), S) := rfl
theorem dLc_of {c : Bool} {own : List Nat} {w : DI} {g : DG} {t : DT} {f : DE} {G : Gam} {S S1 S2 : Sto} {src : Src} {k : Nat} {out : List D} (h1 : w G S = some (src, k, S1)) (h2 : dLcLoop src g t f (wipeG G own) k 0 S1 [] = some (out, S2)) : dLc c own w g t f G S = okLst c out S2 := by
  unfold dLc dComp
  rw [h1]
  show ((dLcLoop src g t f (wipeG G own) k 0 S1 []).bind _) = _
  rw [h2]; rfl
end Vw
set_option maxRecDepth 100000
set_option maxHeartbeats 4000000
namespace Vw
open PySem PySem.Spec L2
abbrev wDash : Str := "-"
abbrev wEven : Str := "even"
def rowD (k : Nat) (f : Nat → Str) : List D := (List.range k).map fun c => D.str (f c)
def upd1 (f : Nat → Str) (j : Nat) (w : Str) : Nat → Str := fun c => if c = j then w else f c
theorem rowD_len {k : Nat} {f : Nat → Str} : (rowD k f).length = k := by unfold rowD; simp
theorem rowD_get {k c : Nat} {f : Nat → Str} (h : c < k) : (rowD k f)[c]? = some (.str (f c)) := by
  unfold rowD
  rw [List.getElem?_map, List.getElem?_range h]; rfl
theorem rowD_set {k j : Nat} {f : Nat → Str} {w : Str} : (rowD k f).set j (.str w) = rowD k (upd1 f j w) := by
  apply List.ext_getElem?
  intro c
  by_cases hc : c < k
  · by_cases hj : j = c
    · subst hj
      rw [List.getElem?_set_self (by rw [rowD_len]; exact hc), rowD_get hc]
      simp [upd1]
    · rw [List.getElem?_set_ne hj, rowD_get hc, rowD_get hc]
      simp [upd1, Ne.symm hj]
  · rw [List.getElem?_eq_none (by rw [List.length_set, rowD_len]; omega), List.getElem?_eq_none (by rw [rowD_len]; omega)]
/-- the rows lie as cells from L on, the row of the rows behind them -/
structure GridC (L k : Nat) (M : Nat → Nat → Str) (S : Sto) : Prop where
  row : ∀ r, r < k → S[L + r]? = some (Cell.lst (rowD k (M r)))
  top : S[L + k]? = some (Cell.lst ((List.range k).map fun r => D.loc (L + r)))
  len : S.length = L + k + 1
def upd2 (M : Nat → Nat → Str) (i j : Nat) (w : Str) : Nat → Nat → Str := fun r => if r = i then upd1 (M i) j w else M r
theorem GridC.put {L k i j : Nat} {M : Nat → Nat → Str} {S : Sto} {w : Str} (g : GridC L k M S) (hi : i < k) (hj : j < k) : opPut (.loc (L + i)) (.int j) (.str w) S = some (S.set (L + i) (Cell.lst (rowD k (upd1 (M i) j w)))) ∧ GridC L k (upd2 M i j w) (S.set (L + i) (Cell.lst (rowD k (upd1 (M i) j w)))) := by
  refine ⟨?_, fun r hr => ?_, ?_, by rw [List.length_set]; exact g.len⟩
  · show (match S[L + i]? with | some (Cell.lst ds) => (match ixN ds.length (j : Int) with | some j => some (S.set (L + i) (Cell.lst (ds.set j (.str w)))) | none => none) | some (Cell.dic ks ds) => _ | none => none) = _
    rw [g.row i hi]
    simp only
    rw [rowD_len, show ixN k (j : Int) = some j by unfold ixN; rw [if_pos (by omega), if_pos (by omega)]; simp]
    simp only [rowD_set]
  · by_cases h : r = i
    · subst h
      rw [List.getElem?_set_self (by rw [g.len]; omega)]
      simp [upd2]
    · rw [List.getElem?_set_ne (by omega), g.row r hr]
      simp [upd2, h]
  · rw [List.getElem?_set_ne (by omega)]
    exact g.top
def PairOk (ss : List Str) (x y : Str) : Prop := (x = wEven ∧ y = wEven) ∨ (x ∈ ss ∧ y ∈ ss)
structure Done (ss : List Str) (k i j : Nat) (M : Nat → Nat → Str) : Prop where
  dia : ∀ a, a < k → M a a = wDash
  pair : ∀ a b, a < b → b < k → (a < i ∨ (a = i ∧ b < j)) → PairOk ss (M a b) (M b a)
theorem Done.step {ss : List Str} {k i j : Nat} {M : Nat → Nat → Str} {x y : Str} (d : Done ss k i j M) (hij : i < j) (hj : j < k) (p : PairOk ss x y) : Done ss k i (j + 1) (upd2 (upd2 M i j x) j i y) := by
  have e : ∀ a b, upd2 (upd2 M i j x) j i y a b = if a = j ∧ b = i then y else if a = i ∧ b = j then x else M a b := fun a b => by
    unfold upd2 upd1
    by_cases h1 : a = j
    · subst h1
      by_cases h2 : b = i
      · subst h2; simp
      · have : ¬ a = i := by omega
        simp [h2, this]
    · by_cases h2 : a = i
      · subst h2
        by_cases h3 : b = j <;> simp [h1, h3]
      · simp [h1, h2]
  refine ⟨fun a ha => ?_, fun a b hab hb h => ?_⟩
  · rw [e, if_neg (by omega), if_neg (by omega)]; exact d.dia a ha
  · by_cases h1 : a = i ∧ b = j
    · obtain ⟨rfl, rfl⟩ := h1
      rw [e, e, if_neg (by omega), if_pos ⟨rfl, rfl⟩, if_pos ⟨rfl, rfl⟩]
      exact p
    · rw [e, e, if_neg (by omega), if_neg h1, if_neg (by omega), if_neg (by omega)]
      exact d.pair a b hab hb (by omega)
theorem strs_get {ss : List Str} {r : Nat} (h : r < (ss.map D.str).length) : ∃ w ∈ ss, (ss.map D.str)[r] = .str w := by
  refine ⟨ss[r]'(by simpa using h), List.getElem_mem _, by simp⟩
end Vw
set_option maxRecDepth 100000
set_option maxHeartbeats 4000000
namespace Vw
open PySem PySem.Spec L2
theorem dSeq_nx {f g : DS} {G G' : Gam} {S S' : Sto} (h : f G S = some (.nx, G', S')) : dSeq f g G S = g G' S' := by
  unfold dSeq; rw [h]; rfl
theorem dSeq_rt {f g : DS} {G G' : Gam} {S S' : Sto} {d : D} (h : f G S = some (.rt d, G', S')) : dSeq f g G S = some (.rt d, G', S') := by
  unfold dSeq; rw [h]; rfl
theorem dFor_of {w : DI} {g : DG} {b : DS} {G : Gam} {S S1 : Sto} {src : Src} {k : Nat} (h : w G S = some (src, k, S1)) : dFor w g b G S = dLoop src g b k 0 G S1 := by
  unfold dFor; rw [h]; rfl
end Vw
set_option maxRecDepth 100000
set_option maxHeartbeats 4000000
namespace Vw
open PySem PySem.Spec L2
abbrev four : List Str := ["stand", "bow", "pass", "slip"]
def Ways (k : Nat) (ws : List (List Int)) : Prop := ws.length = k ∧ ∀ (i : Nat) w, ws[i]? = some w → w.Perm (others k i)
def natL (es : List Nat) : List Int := es.map fun (j : Nat) => (j : Int)
end Vw
set_option maxRecDepth 100000
set_option maxHeartbeats 4000000
namespace Vw
open PySem PySem.Spec L2
theorem cut_ints (ns : List Int) (lo hi : Option Int) : ∃ ms : List Int, cutD (intL ns) lo hi = intL ms ∧ ms.length ≤ ns.length := by
  refine ⟨(ns.drop (HT.sIx (intL ns).length 0 lo)).take (HT.sIx (intL ns).length (intL ns).length hi - HT.sIx (intL ns).length 0 lo), ?_, ?_⟩
  · unfold cutD intL
    rw [List.map_take, List.map_drop]
  · rw [List.length_take, List.length_drop]; omega
theorem seq_src {G : Gam} {S : Sto} {i : Nat} {ds : List D} (hg : G[i]? = some (some (.lst ds))) : dSeqI (dVar i) G S = some (fixS ds, ds.length + 1, S) := by
  simp only [dSeqI, dVar, hg, Option.bind_some, srcD, seqD, Option.map_some]
theorem intL_len (xs : List Int) : (intL xs).length = xs.length := List.length_map _
end Vw
set_option maxRecDepth 100000
set_option maxHeartbeats 4000000
namespace Vw
open PySem PySem.Spec PyProof.Rows L2
/-- the code's own tuples have no dict of their own -/
def tupsIn (K : PySem.W.Frag) : Bool := K.all fun p => match p.2.cls with
  | .type n => n != "tuple" || p.2.dict.isNone
  | _ => true
theorem tups_of : ∀ {K : PySem.W.Frag}, tupsIn K = true → ∀ a o, K.lookup a = some o → o.cls = .type "tuple" → o.dict = none
  | [], _, a, o, e, _ => by cases e
  | (b, o') :: K, h, a, o, e, hc => by
    unfold tupsIn at h
    rw [List.all_cons, Bool.and_eq_true] at h
    rw [List.lookup_cons] at e
    split at e
    · cases e
      have h1 := h.1
      dsimp only at h1
      rw [hc] at h1
      simpa using h1
    · exact tups_of (K := K) h.2 a o e hc
theorem reps_ints {K : PySem.W.Frag × List Addr} {H : Hp} {m : List Addr} : ∀ ns : List Int, Reps K H m (ns.map V.int) (intL ns)
  | [] => .nil
  | n :: ns => .cons (.int n) (reps_ints ns)
/-- what is tracked as the law is called: the script, and the code objects' tables -/
noncomputable def H0 (K : PySem.W.Frag) (tb : List Addr) (a : Addr) (o : Obj) (ns : List Int) : Hp := fun b => if b ∈ tb then some (.tbl #[]) else if b = a ∧ K.lookup a = none then some (.frz o (.lst (ns.map V.int))) else none
abbrev scriptObj (vs : List Value) : Obj := { cls := .type "list", data := .seq vs.toArray }
abbrev tab0 : Obj := { cls := .none, data := .fields #[] }
section
variable {P : Program} {w : World} {K : PySem.W.Frag} {mg mb : Str → Option Value} {k : Nat} {fa a : Addr} {cs : List (Addr × Addr)} {fd : FuncData} {x : Str} {fn : DF} {s₁ : Shared} {vs : List Value} {ns : List Int}
theorem law_callG (hkt : tupsIn K = true) (KX : K.In s₁.heap) (hns : s₁.heap.Ns mainGlobals mg) (hb : s₁.heap.Ns builtinsNs mb) (hbb : ∀ x : Str, x ≠ "__name__" → mb x = bootBuiltins x) (hlim : s₁.heap.NoLimit) (hg : s₁.gens = #[])
    (hT : ∀ p ∈ cs, s₁.heap.get? p.2 = some tab0 ∧ K.lookup p.2 = none ∧ PySem.W.codeHdIn K p.1 p.2 = true)
    (hbm : ∃ (bm : Addr) (ob : Obj), mg "__builtins__" = some (.ref bm) ∧ bm ≠ builtinsNs ∧ s₁.heap.get? bm = some ob ∧ ob.cls = .type "module" ∧ ob.dict = some builtinsNs ∧ ob.data = .plain)
    (ha : s₁.heap.get? a = some (scriptObj vs)) (hi : IntsAre vs ns) (hl : ns.length ≤ sizeLine) (hr : Room k callerA)
    (F : ∀ base : Heap, K.In base → base.Ns mainGlobals mg → (∀ p ∈ cs, GxR.TabB base mg p.1 p.2) → FnG P w K mg base (L2.CX P w) k fa fd [x] (spD K (cs.map (·.2)) 1 fn))
    (hbind : ∀ (s : Shared) (u : Value), BindsTo s fd ⟨[u], []⟩ [(x, u)]) (hfn : ∃ S', fn [.scr (intL ns)] [] = some (.bl true, S')) :
    codeAny (model P w) callerA (.call (.ref fa) ⟨[.ref a], []⟩) (fun r s' => r = .ok (.ret (.bool true)) ∧ OldK s₁.heap s'.heap ∧ s'.os = s₁.os ∧ AllBare s'.gens) s₁ := by
  obtain ⟨S', hfn⟩ := hfn
  generalize hTb : cs.map (·.2) = tb at *
  have inT : ∀ b ∈ tb, ∃ p ∈ cs, p.2 = b := fun b hb => by
    subst hTb
    obtain ⟨p, hp, e⟩ := List.mem_map.mp hb
    exact ⟨p, hp, e⟩
  have ofT : ∀ p ∈ cs, p.2 ∈ tb := fun p hp => by subst hTb; exact List.mem_map.mpr ⟨p, hp, rfl⟩
  have tabAt : ∀ b ∈ tb, s₁.heap.get? b = some tab0 ∧ K.lookup b = none := fun b hb => by
    obtain ⟨p, hp, rfl⟩ := inT b hb
    exact ⟨(hT p hp).1, (hT p hp).2.1⟩
  have aT : a ∉ tb := fun z => by
    have q := (tabAt a z).1
    rw [ha] at q
    exact nomatch (congrArg Obj.data (Option.some.inj q) : Data.seq vs.toArray _ = Data.fields #[])
  generalize hH : H0 K tb a (scriptObj vs) ns = H
  have Ht : ∀ b ∈ tb, H b = some (.tbl #[]) := fun b hb => by subst hH; exact if_pos hb
  have Hcase : ∀ b u, H b = some u → (b ∈ tb ∧ u = .tbl #[]) ∨ (b = a ∧ K.lookup a = none ∧ u = .frz (scriptObj vs) (.lst (ns.map V.int))) := fun b u e => by
    subst hH
    unfold H0 at e
    split at e
    · rename_i h; exact .inl ⟨h, (Option.some.inj e).symm⟩
    · split at e
      · rename_i h; exact .inr ⟨h.1, h.2, (Option.some.inj e).symm⟩
      · cases e
  have rv := vals_ints hi
  have lenV := hi.length
  have hok : HOk P w H s₁.heap := fun b u e => by
    rcases Hcase b u e with ⟨h1, rfl⟩ | ⟨rfl, _, rfl⟩
    · exact (tabAt b h1).1
    · exact ⟨ha, by rw [List.length_map]; exact hl, vs, _, rv, ha⟩
  -- what is not tracked
  have untr : ∀ {b : Addr} {o : Obj}, s₁.heap.get? b = some o → (∀ us n, o.data ≠ .seq us n) → o.data ≠ .fields #[] → H b = none := fun {b o} e h1 h2 => by
    cases q : H b with
    | none => rfl
    | some u =>
      rcases Hcase b u q with ⟨ht, _⟩ | ⟨rfl, _, _⟩
      · rw [(tabAt b ht).1] at e; cases e; exact (h2 rfl).elim
      · rw [ha] at e; cases e; exact (h1 _ _ rfl).elim
  have toBase : ∀ {b : Addr} {o : Obj}, s₁.heap.get? b = some o → H b = none → (hidT s₁.heap H).get? b = some o := fun e n => hidT_get e n
  have nsB : ∀ {b : Addr} {m : Str → Option Value}, s₁.heap.Ns b m → (hidT s₁.heap H).Ns b m := fun {b m} ⟨o, es, ep, e, d, r⟩ =>
    ⟨o, es, ep, toBase e (untr e (fun _ _ z => by rw [d] at z; cases z) fun z => by rw [d] at z; cases z), d, r⟩
  have KB' : K.In (hidT s₁.heap H) := fun b o e => toBase (KX b o e) (by
    cases q : H b with
    | none => rfl
    | some u =>
      rcases Hcase b u q with ⟨ht, _⟩ | ⟨rfl, hk, _⟩
      · rw [(tabAt b ht).2] at e; cases e
      · rw [hk] at e; cases e)
  have hM : L2.Mod K mg (hidT s₁.heap H) := ⟨KB', nsB hns, ⟨mb, nsB hb, hbb⟩, let ⟨mc, h1, h2⟩ := hlim; ⟨mc, nsB h1, h2⟩⟩
  have TB : ∀ p ∈ cs, GxR.TabB (hidT s₁.heap H) mg p.1 p.2 := fun p hp => by
    obtain ⟨h1, h2, h3⟩ := hT p hp
    refine ⟨PySem.W.codeHd_of_K KB' h3, ?_, fun z => ?_⟩
    · obtain ⟨bm, ob, b1, b2, b3, b4, b5, b6⟩ := hbm
      refine ⟨bm, ob, b1, b2, fun q => ?_, fun q => ?_, toBase b3 (untr b3 (fun _ _ z => by rw [b6] at z; cases z) fun z => by rw [b6] at z; cases z), b4, b5, b6⟩
      · obtain ⟨o, es, ep, e, hd, _⟩ := hns
        rw [q, e] at b3
        cases b3
        rw [hd] at b6; cases b6
      · rw [q, h1] at b3
        cases b3
        cases b6
    · obtain ⟨o, es, ep, e, hd, _⟩ := hns
      rw [z, h1] at e
      cases e
      cases hd
  have e0 : Env0 P w K mg (hidT s₁.heap H) callerA [] s₁ H := ⟨rfl, hM, fun b o e => of_hidT e, Nat.le_of_eq (hidT_size _ _), trivial, (fun b hb => absurd (show b ∈ ([] : List Addr) from hb) (by simp)), hok, .of_eq hg⟩
  have okD : Ok (K, []) tb H [] [] := ⟨List.nodup_nil, rfl, fun n a ds e => by simp at e, fun n a ks ds e => by simp at e, fun p hp => ⟨#[], Ht p hp, trivial⟩, fun b hb => (by cases hb), ⟨fun b u e => by rcases Hcase b u e with ⟨_, rfl⟩ | ⟨_, _, rfl⟩ <;> exact trivial, tups_of hkt⟩⟩
  have repS : Rep (K, []) H [] (.ref a) (.scr (intL ns)) := by
    cases hk : K.lookup a with
    | none =>
      refine .scr (.inr ⟨scriptObj vs, ?_⟩) (by simp) (by simp) (reps_ints ns)
      subst hH
      show (if a ∈ tb then _ else _) = _
      rw [if_neg aT, if_pos ⟨rfl, hk⟩]
    | some o =>
      have e := KX a o hk
      rw [ha] at e
      cases e
      exact .scrK (.inr ⟨_, vs.toArray, _, hk, rfl, rfl, rfl, by rw [List.size_toArray, lenV]; exact hl, by simpa using rv⟩) (reps_ints ns)
  refine codeAny_mono ((F _ KB' (nsB hns) TB).run callerA [] s₁ H ⟨[.ref a], []⟩ [.ref a] [.ref a] (fun v _ => v = .bl true) noE hr rfl e0 (hbind s₁ (.ref a)) (.cons rfl .nil)
    ⟨[], [], [], [.scr (intL ns)], .bl true, S', rfl, okD, .one repS, hfn, fun v H' m' _ _ r => by cases r; rfl⟩) fun r s' h => ?_
  cases r with
  | error e => exact (noCX h).elim
  | ok fl =>
    cases fl with
    | next => exact False.elim h
    | brk => exact False.elim h
    | cont => exact False.elim h
    | ret u =>
      obtain ⟨v, H', os, bare, un, hok', r', q⟩ := h
      have q' : v = .bl true := q
      subst q'
      obtain rfl : u = Value.bool true := r'
      have kept : ∀ b o, b ∉ tb → s₁.heap.get? b = some o → s'.heap.get? b = some o := fun b o nb e => by
        cases z : H b with
        | none => exact un.keep b o e z (fun y => by cases y) (fun y => by cases y)
        | some u =>
          rcases Hcase b u z with ⟨ht, _⟩ | ⟨_, _, rfl⟩
          · exact absurd ht nb
          · obtain ⟨e2, _⟩ := hok' b _ (un.frzs b _ _ z)
            obtain ⟨e1, _⟩ := hok b _ z
            rw [e] at e1; cases e1
            exact e2
      have grown : ∀ b ∈ tb, ∃ more : Array Value, s'.heap.get? b = some { cls := .none, data := .fields more } := fun b hb => by
        obtain ⟨more, z⟩ := un.tbls b #[] (Ht b hb)
        exact ⟨_, hok' b _ z⟩
      refine ⟨rfl, ⟨fun b o e => ?_, fun b o e => ?_⟩, os, bare⟩
      · by_cases hb' : b ∈ tb
        · obtain ⟨p, hp, rfl⟩ := inT b hb'
          obtain ⟨more, hm⟩ := grown p.2 hb'
          obtain ⟨h1, _, h3⟩ := hT p hp
          rw [h1] at e
          cases e
          exact .inr (.inl ⟨((PySem.W.codeHd_of_K KX h3).tab h1).isCodeTable, rfl, #[], more, rfl, by rw [Array.empty_append]; exact hm⟩)
        · exact .inl (kept b o hb' e)
      · by_cases hb' : b ∈ tb
        · obtain ⟨more, hm⟩ := grown b hb'
          exact ⟨_, hm⟩
        · exact ⟨o, kept b o hb' e⟩
end
/-- what is known of the law as the head ends -/
def LawG (l : PySem.W.OpenLaw) (w : World) (K : PySem.W.Frag) (k n : Nat) (x : Str) (mg : Str → Option Value) (fa : Addr) (h : Heap) : Prop :=
  tupsIn K = true ∧ ∃ (fd : FuncData) (cs : List (Addr × Addr)) (fn : DF), (∀ p ∈ cs, h.get? p.2 = some tab0 ∧ K.lookup p.2 = none ∧ PySem.W.codeHdIn K p.1 p.2 = true) ∧ (∀ (s : Shared) (u : Value), BindsTo s fd ⟨[u], []⟩ [(x, u)]) ∧
    (∀ ns : List Int, ns.length ≤ n → ∃ S', fn [.scr (intL ns)] [] = some (.bl true, S')) ∧
    ∀ base : Heap, K.In base → base.Ns mainGlobals mg → (∀ p ∈ cs, GxR.TabB base mg p.1 p.2) → FnG l.prog w K mg base (L2.CX l.prog w) k fa fd [x] (spD K (cs.map (·.2)) 1 fn)
theorem walk_ofG {l : PySem.W.OpenLaw} {n k : Nat} {q : Program} {loose : List Str} {XP : (Str → Option Value) → Heap → Prop} {YP : World → Heap → Prop} {d : DefRec} {K : Params → PySem.W.Frag} {x : Str}
    (hn : l.most = some n) (hn2 : n ≤ sizeLine) (hdf : d.params.defaults = []) (hr : Room k callerA) (hY : ∀ (w : World) (h : Heap), YP w h → (K w.params).In h)
    (F : ∀ (w : World) (mg : Str → Option Value) (fa : Addr) (h : Heap), YP w h → (K w.params).In h → h.Ns mainGlobals mg → mg d.name = some (.ref fa) →
      (∀ (y : Str) (dd : DefRec) (c P : Addr), (recsOf q).find? (fun e => e.name == y) = some dd → PySem.W.tabIn (K w.params) y = some (c, P) → h.get? P = some tab0) → LawG l w (K w.params) k n x mg fa h) :
    PySem.W.WalkO q loose XP YP l.row.toRowW d [] (fun f vs => PySem.call f vs) := by
  refine Att.attach_callB hn hdf fun w s₀ s₁ mg mb fa o pm cd doc a vs ns G Y ho hd hcd hmg hobj hints hlen hbits hg => ?_
  have KX := hY w _ Y
  obtain ⟨hkt, fd, cs, fn, hT, hb, hfn, hF⟩ := F w mg fa _ Y KX G.T.g hmg fun y dd c P h1 h2 => (PySem.W.tab_of G.T KX h1 h2).2
  exact law_callG hkt KX G.T.g G.T.b G.T.builtins G.T.nolimit hg hT G.T.bmain hobj hints (Nat.le_trans hlen hn2) hr hF hb (hfn ns hlen)
end Vw
namespace Vw
open PySem PySem.Spec L2
section
variable {G : Gam} {S S1 S2 S3 : Sto}
theorem dCons_of {f : DE} {fs : DA} {d : D} {ds : List D} (h1 : f G S = some (d, S1)) (h2 : fs G S1 = some (ds, S2)) : dCons f fs G S = some (d :: ds, S2) := by
  unfold dCons
  simp only [h1, Option.bind_some, h2]
theorem dOne_of {f : DE} {d : D} (h1 : f G S = some (d, S1)) : dCons f dNil G S = some ([d], S1) := dCons_of h1 rfl
theorem dCall_of {op : OpC} {fs : DA} {ds : List D} {r : Option (D × Sto)} (h1 : fs G S = some (ds, S1)) (h2 : op ds S1 = r) : dCall op fs G S = r := by
  unfold dCall
  simp only [h1, Option.bind_some, h2]
theorem dCallF_of {n : Nat} {fs : DA} {fn : DF} {ds : List D} {r : Option (D × Sto)} (h1 : fs G S = some (ds, S1)) (hn : ds.length = n) (h2 : fn ds S1 = r) : dCallF n fs fn G S = r := by
  unfold dCallF
  simp only [h1, Option.bind_some, hn, if_true, h2]
theorem dBin_of {op : D → D → Sto → Option (D × Sto)} {f g : DE} {x y : D} {r : Option (D × Sto)} (h1 : f G S = some (x, S1)) (h2 : g G S1 = some (y, S2)) (h3 : op x y S2 = r) : dBin op f g G S = r := by
  unfold dBin
  simp only [h1, Option.bind_some, h2, h3]
theorem dTst_of {f : DE} {b : Bool} (h : f G S = some (.bl b, S1)) : dTst f G S = some (b, S1) := by
  unfold dTst
  simp only [h, Option.bind_some]
theorem dCmpT_of {op : D → D → Sto → Option (D × Sto)} {f g : DE} {x y : D} {b : Bool} (h1 : f G S = some (x, S1)) (h2 : g G S1 = some (y, S2)) (h3 : op x y S2 = some (.bl b, S3)) : dCmpT op f g G S = some (b, S3) := dTst_of (dBin_of h1 h2 h3)
theorem dRet_of {f : DE} {d : D} (h : f G S = some (d, S1)) : dRet f G S = some (.rt d, G, S1) := by
  unfold dRet
  simp only [h, Option.bind_some]
theorem dAsg_of {f : DE} {i : Nat} {d : D} (h : f G S = some (d, S1)) : dAsg f (dgName i) G S = some (.nx, G.set i (some d), S1) := by
  unfold dAsg
  simp only [h, Option.bind_some]; rfl
theorem dExpr_of {f : DE} {d : D} (h : f G S = some (d, S1)) : dExpr f G S = some (.nx, G, S1) := by
  unfold dExpr
  simp only [h, Option.bind_some]
theorem dIte_f {t : DT} {f g : DS} (h : t G S = some (false, S1)) : dIte t f g G S = g G S1 := by
  unfold dIte
  simp only [h, Option.bind_some, Bool.false_eq_true, if_false]
theorem dIte_t {t : DT} {f g : DS} (h : t G S = some (true, S1)) : dIte t f g G S = f G S1 := by
  unfold dIte
  simp only [h, Option.bind_some, if_true]
theorem dOr_ff {a b : DT} (h1 : a G S = some (false, S1)) (h2 : b G S1 = some (false, S2)) : dOr a b G S = some (false, S2) := by
  unfold dOr
  simp only [h1, Option.bind_some, Bool.false_eq_true, if_false, h2]
theorem dNot_of {a : DT} {b : Bool} (h1 : a G S = some (b, S1)) : dNot a G S = some (!b, S1) := by
  unfold dNot
  simp only [h1, Option.bind_some]
theorem dLst_of {fs : DA} {ds : List D} (h : fs G S = some (ds, S1)) (hl : ds.length ≤ 1000000) : dLst false fs G S = some (.lst ds, S1) := by
  unfold dLst
  simp only [h, Option.bind_some]
  exact okv hl
theorem dTup_of {fs : DA} {ds : List D} (h : fs G S = some (ds, S1)) (hl : ds.length ≤ 1000000) : dTup fs G S = some (.tup ds, S1) := by
  unfold dTup
  simp only [h, Option.bind_some]
  exact okt hl
theorem dSeqI_t {f : DE} {ds : List D} (h : f G S = some (.tup ds, S1)) : dSeqI f G S = some (fixS ds, ds.length + 1, S1) := by
  unfold dSeqI
  simp only [h, Option.bind_some]; rfl
theorem dPar_of {i j : Nat} {fs : DA} {x y : D} (h : fs G S = some ([x, y], S1)) : dPar i j fs G S = some (.nx, (G.set i (some x)).set j (some y), S1) := by
  unfold dPar
  simp only [h, Option.bind_some]
end
end Vw
set_option maxRecDepth 100000
set_option maxHeartbeats 4000000
namespace Vw
open PySem PySem.Spec PyProof.Rows L2
section
variable {X : Cx} {T : List Addr} {k : Nat} {a b c e o : Expr} {es : List Expr} {pos p apos cpos : Pos} {fa fb fc fe fo : DE} {fs : DA} {ta tb : DT}
theorem tIs (ha : PE X a (tD X.K T fa)) (hb : PE X b (tD X.K T fb)) : PT X (.Compare a [.Is] [b] pos) (tB X.K T (dCmpT (opIsN false) fa fb)) := rCmpT (pt_cmpR op_isN ha hb (nomark _)) rule_isN
abbrev Es1 (X : Cx) (e : Expr) (es : List Expr) : Prop := starEach (e :: es) X.env = (false, eval e X.env) :: starEach es X.env
abbrev Pl1 (X : Cx) (pos : Pos) (es : List Expr) : Prop := (backTo pos (starEach es X.env)).any (·.1) = false
end
end Vw
set_option maxRecDepth 100000
set_option maxHeartbeats 4000000
namespace Vw
open PySem PySem.Spec PyProof.Rows L2
/-- the name of a value's type; none where it is not asked -/
def tyN (S : Sto) : D → Option String
  | .non => some "NoneType"
  | .bl _ => some "bool"
  | .int _ => some "int"
  | .str _ => some "str"
  | .tup _ => some "tuple"
  | .lst _ => some "list"
  | .dic _ _ => some "dict"
  | .loc n => match S[n]? with
    | some (.lst _) => some "list"
    | some (.dic _ _) => some "dict"
    | none => none
  | .scr _ => none
theorem ty_rdT {K : PySem.W.Frag} {H : Hp} {a : Addr} {xs : List V} (h : SqT K H a xs) : TyX K H (.ref a) (.type "tuple") := by
  rcases h with (h | ⟨o, h⟩) | ⟨o, its, n, h1, h2, _⟩
  · exact .base (.tup h)
  · exact .fTuple h
  · exact .kTuple h1 h2
theorem ty_rdD {K : PySem.W.Frag} {H : Hp} {a : Addr} {kvs : List (Key × V)} (h : Rd H a (.dK kvs)) : TyX K H (.ref a) (.type "dict") := by
  rcases h with h | ⟨o, h⟩
  · exact .base (.dK h)
  · exact .fDict h
theorem ty_ok {K : PySem.W.Frag × List Addr} {T : List Addr} {H : Hp} {m : List Addr} {S : Sto} {v : V} {d : D} {t : String} (ok : Ok K T H m S) (r : Rep K H m v d) (e : tyN S d = some t) : TyX K.1 H v (.type t) := by
  unfold tyN at e
  split at e
  · cases e; cases r; exact .base .non
  · cases e; cases r; exact .base (.bl _)
  · cases e; cases r; exact .base (.int _)
  · cases e; cases r; exact .base (.str _)
  · cases e
    cases r with
    | tup h _ => exact ty_rdT h
  · cases e
    cases r with
    | lst h _ _ _ => exact .base (.lst h)
  · cases e
    cases r with
    | dic h _ _ _ _ => exact ty_rdD h
  · rename_i n
    cases r with
    | loc h =>
      split at e
      · rename_i es
        cases e
        obtain ⟨xs, q, _⟩ := ok.lst _ _ _ h es
        exact .base (.lst q)
      · rename_i es
        cases e
        obtain ⟨kvs, q, _⟩ := ok.dic _ _ _ _ h es
        exact .base (.dK q)
      · cases e
  · cases e
section
variable {X : Cx} {T : List Addr} {k : Nat} {a b c e o : Expr} {es : List Expr} {pos p p2 apos cpos : Pos} {fa fb fc fe fo : DE} {fs : DA}
def dIsi (n : String) (fe : DE) : DE := fun G S => (fe G S).bind fun p => (tyN p.2 p.1).bind fun t => (kitB t n).map fun b => (.bl b, p.2)
theorem eIsi (n : String) {y : Str} (h : PE X e (tD X.K T fe)) (m : X.mg "isinstance" = none) (g : Gl X "isinstance") (m2 : X.mg y = none) (g2 : Gl X y) (hv : bootBuiltins y = some (.type n)) (hy : y ≠ "__name__") (hy2 : (y == ("__debug__" : Str)) = false)
    (he : Es1 X e [.Name y p2] := by rfl) (hpl : Pl1 X pos [.Name y p2] := by rfl) (he2 : Es1 X (.Name y p2) [] := by rfl) : PE X (.Call (.Name "isinstance" p) [e, .Name y p2] [] pos) (tD X.K T (dIsi n fe)) := by
  have hT : PE X (.Name y p2) (tC (.ty n)) := pe_bltn g2 m2 hv rfl hy hy2
  refine peImp (pe_callB call_isi g m (by decide +kernel) (pa_cons h (pa_cons hT pa_nil he2) he) (by decide) (by decide) he hpl) fun σ H Q ⟨Z, G, S, m, d, S', ok, en, f, q⟩ => ?_
  unfold dIsi at f
  obtain ⟨⟨x, S1⟩, e1, f⟩ := Option.bind_eq_some_iff.mp f
  obtain ⟨t, e2, f⟩ := Option.bind_eq_some_iff.mp f
  obtain ⟨b, e3, f⟩ := Option.map_eq_some_iff.mp f
  cases f
  refine tD.go ok en e1 fun v H1 m1 x1 o1 en1 r1 => ?_
  exact ⟨v, .ty n, .type t, .type n, b, rfl, .ty n, ty_ok o1 r1 e2, kit_ty e3, q _ H1 m1 x1 o1 (.bl b)⟩
theorem eGInt {x : Str} {i : Int} {t : Tok} (hm : X.mg x = some (.int i t)) (hg : Gl X x) (hd : (x == ("__debug__" : Str)) = false) : PE X (.Name x pos) (tD X.K T (dCon (.int i))) := rCon (pe_glob (v := .int i) hg hm ⟨t, rfl⟩ hd) fun _ _ _ _ _ => .int _
/-- flat data as a value of the head -/
def flatV1 : Value → Option (V × D)
  | .none => some (.non, .non)
  | .bool b => some (.bl b, .bl b)
  | .int i _ => some (.int i, .int i)
  | .str x _ => some (.str x, .str x)
  | _ => none
theorem flatV1_ok {K : PySem.W.Frag × List Addr} {H : Hp} {m : List Addr} {u : Value} {v : V} {d : D} (h : flatV1 u = some (v, d)) : RelV v u ∧ Rep K H m v d := by
  unfold flatV1 at h
  split at h <;> cases h
  · exact ⟨rfl, .non⟩
  · exact ⟨rfl, .bl _⟩
  · exact ⟨⟨_, rfl⟩, .int _⟩
  · exact ⟨⟨_, rfl⟩, .str _⟩
def flatVs : List Value → Option (List V × List D)
  | [] => some ([], [])
  | u :: us => (flatV1 u).bind fun p => (flatVs us).map fun q => (p.1 :: q.1, p.2 :: q.2)
theorem flatVs_ok {K : PySem.W.Frag × List Addr} {H : Hp} {m : List Addr} : ∀ {us : List Value} {vs : List V} {ds : List D}, flatVs us = some (vs, ds) → Vals vs us ∧ Reps K H m vs ds
  | [], _, _, h => by cases h; exact ⟨.nil, .nil⟩
  | u :: us, vs, ds, h => by
    unfold flatVs at h
    obtain ⟨⟨v, d⟩, e1, h⟩ := Option.bind_eq_some_iff.mp h
    obtain ⟨⟨vs', ds'⟩, e2, h⟩ := Option.map_eq_some_iff.mp h
    cases h
    obtain ⟨a1, a2⟩ := flatV1_ok (K := K) (H := H) (m := m) e1
    obtain ⟨b1, b2⟩ := flatVs_ok (K := K) (H := H) (m := m) e2
    exact ⟨.cons a1 b1, .cons a2 b2⟩
/-- a constant that is a tuple of flat data -/
theorem eGTup {x : Str} {P : Addr} {od : Option Addr} {its : Array Value} {n : Nat} {sl : Array (Option Value)} {vs : List V} {ds : List D} (hm : X.mg x = some (.ref P)) (hg : Gl X x) (hk : X.K.lookup P = some ⟨.type "tuple", od, .seq its n, sl⟩)
    (hs : its.size ≤ sizeLine) (hf : flatVs its.toList = some (vs, ds)) (hd : (x == ("__debug__" : Str)) = false) : PE X (.Name x pos) (tD X.K T (dCon (.tup ds))) :=
  rCon (pe_glob (v := .ref P) hg hm rfl hd) fun Z H m S ok => .tup (.inr ⟨_, its, n, hk, rfl, rfl, hs, (flatVs_ok (K := (X.K, Z)) (H := H) (m := m) hf).1⟩) (flatVs_ok hf).2
end
end Vw
set_option maxRecDepth 100000
set_option maxHeartbeats 4000000
namespace Vw
open PySem PySem.Spec PyProof.Rows L2
def dSlG (c : Bool) (fe : DE) (fl fh : DO) : DE := fun G S => (fe G S).bind fun p => (fl G p.2).bind fun l => (fh G l.2).bind fun h => match p.1 with
  | .tup xs => okTup (cutD xs l.1 h.1) h.2
  | d => (lstS h.2 d).bind fun xs => okLst c (cutD xs l.1 h.1) h.2
theorem cut_whole {xs : List D} {lo hi : Option Int} (h : HT.sIx xs.length 0 lo = 0 ∧ HT.sIx xs.length xs.length hi = xs.length) : cutD xs lo hi = xs := by
  unfold cutD
  rw [h.1, h.2]
  simp
section
variable {X : Cx} {T : List Addr}
theorem rSlG {e : Expr} {lo hi : Option Expr} {p2 pos : Pos} {c : Bool} {fe : DE} {fl fh : DO} (he : PE X e (tD X.K T fe)) (hl : PO X lo (tOD X.K T fl)) (hh : PO X hi (tOD X.K T fh)) : PE X (.Subscript e (.Slice lo hi none p2) pos) (tD X.K T (dSlG c fe fl fh)) := by
  refine peImp (pe_slice (SlR.or sl_list sl_madeT) he hl hh) fun σ H Q ⟨Z, G, S, m, d, S', ok, en, f, q⟩ => ?_
  unfold dSlG at f
  obtain ⟨⟨d0, S1⟩, e1, f⟩ := Option.bind_eq_some_iff.mp f
  obtain ⟨⟨l, S2⟩, e2, f⟩ := Option.bind_eq_some_iff.mp f
  obtain ⟨⟨h, S3⟩, e3, f⟩ := Option.bind_eq_some_iff.mp f
  refine tD.go ok en e1 fun v H1 m1 x1 o1 en1 r1 => ?_
  refine ⟨Z, G, S1, m1, l, S2, o1, en1, e2, fun H2 m2 x2 o2 => ?_⟩
  refine ⟨Z, G, S2, m2, h, S3, o2, en1.mono x2 o1, e3, fun H3 m3 x3 o3 => ?_⟩
  have r3 := (r1.mono x2 o1).mono x3 o2
  dsimp only at f
  split at f
  · rename_i ds
    cases r3 with
    | tup hq rs =>
      refine .inr ⟨_, _, rfl, hq, fun hw => ?_, fun _ p ob hp hb => ?_⟩
      · rw [rs.len] at hw
        rw [cut_whole hw] at f
        unfold okTup at f
        split at f
        · cases f
          exact q _ H3 m3 ((x1.trans x2).trans x3) o3 (.tup hq rs)
        · cases f
      · exact newTup (Q := Q) o3 hp hb (cut_reps rs l h) f fun w H4 m4 x4 o4 r4 => q w H4 m4 (((x1.trans x2).trans x3).trans x4) o4 r4
  · obtain ⟨ds, e4, f⟩ := Option.bind_eq_some_iff.mp f
    obtain ⟨a, xs, rfl, hq, rs⟩ := lstS_ok o3 r3 e4
    refine .inl ⟨a, xs, rfl, hq, fun p hp => ?_⟩
    exact newLst (Q := Q) o3 hp (cut_reps rs l h) f fun w H4 m4 x4 o4 r4 => q w H4 m4 (((x1.trans x2).trans x3).trans x4) o4 r4
end
end Vw
set_option maxRecDepth 100000
set_option maxHeartbeats 4000000
namespace Vw
open PySem PySem.Spec PyProof.Rows L2
theorem mul_by1 (l : Addr) (its : Array Value) (n : Nat) (dd : Option Addr) (sl : Array (Option Value)) (u : Tok) :
    Meets (Builtin.«tuple.__mul__» ⟨[.ref l, .int 1 u], []⟩) (fun _ R s => s.heap.get? l = some ⟨.type "tuple", dd, .seq its n, sl⟩ ∧ R (.ok (.ret (Value.ref l))) s) :=
  .of_wp fun pr w A R s ⟨hl, h⟩ => by
    obtain ⟨hp, g, d, tk, os⟩ := s
    have f1 := AutoSeq1.idx_int
    have c1 : (its.isEmpty || (1 : Int) == 1) = true := by simp
    (wp_walk using wpAny_loadPart' hl)
    repeat (first
      | (refine wpAny_ite_true (decide_eq_true (by rw [c1])) ?_; (wp_walk using wpAny_loadPart' hl))
      | (refine wpAny_ite_false (decide_eq_false (by decide)) ?_; (wp_walk using wpAny_loadPart' hl)))
    exact ⟨_, rfl, h⟩
theorem mul_by0 (l : Addr) (its : Array Value) (n : Nat) (dd : Option Addr) (sl : Array (Option Value)) (u : Tok) (he : its.isEmpty = false) :
    Meets (Builtin.«tuple.__mul__» ⟨[.ref l, .int 0 u], []⟩) (fun _ R s => s.heap.get? l = some ⟨.type "tuple", dd, .seq its n, sl⟩ ∧
      R (.ok (.ret (Value.ref s.heap.objs.size))) { s with heap := s.heap.push { cls := Value.type "tuple", data := Data.seq #[] }, toks := s.toks }) :=
  .of_wp fun pr w A R s ⟨hl, h⟩ => by
    obtain ⟨hp, g, d, tk, os⟩ := s
    have f1 := AutoSeq1.idx_int
    have c1 : (its.isEmpty || (0 : Int) == 1) = false := by rw [he]; rfl
    have c2 : (decide ((0 : Int) ≤ 0) || its.isEmpty) = true := by simp
    (wp_walk using wpAny_loadPart' hl)
    repeat (first
      | (refine wpAny_ite_false (decide_eq_false (by rw [c1]; exact Bool.false_ne_true)) ?_; (wp_walk using wpAny_loadPart' hl))
      | (refine wpAny_ite_true (decide_eq_true (by rw [c2])) ?_; (wp_walk using wpAny_loadPart' hl))
      | (refine wpAny_ite_false (decide_eq_false (by decide)) ?_; (wp_walk using wpAny_loadPart' hl)))
    exact ⟨_, rfl, h⟩
/-- a tuple that is not empty, times 0 or 1 -/
def rRep01 (K : PySem.W.Frag) : R2 := fun x y H Q => ∃ l k xs, x = .ref l ∧ y = .int k ∧ SqT K H l xs ∧ xs ≠ [] ∧ ((k = 1 ∧ Q (.ref l) H) ∨ (k = 0 ∧ MadeT Q [] H))
theorem op_rep01 {X : Cx} : OpR X (binaryOp .Mult) (rRep01 X.K) := by
  intro pins s σ H x y v u Q I rx ry h
  obtain ⟨l, k, xs, rfl, rfl, hT, hne, h⟩ := h
  cases rx
  obtain ⟨t, rfl⟩ := ry
  obtain ⟨its, r, ⟨⟨cls, dd, data, sl⟩, ho, hc, n, hd⟩, hs⟩ := I.tuple hT
  cases (show cls = _ from hc)
  cases (show data = _ from hd)
  have hi : its.toArray.isEmpty = false := by
    cases its with
    | nil => cases r; exact absurd rfl hne
    | cons a b => rfl
  rcases h with ⟨rfl, q⟩ | ⟨rfl, q⟩
  · exact wpAny_binaryOp_repeat_ref (T := "tuple") (U := "int") (by decide) ⟨_, ho, rfl⟩ (fun s' => typeIs_int s' 1 t) noFill_tuple_mul F.fills_int_mul F.slot_int_rmul repeat_tuple F.slot_int_index.lookup
      (call_meets F.slot_int_rmul (typeIs_int s 1 t) F.entry_int_rmul (F.args_int_rmul_2 _ _) (int_rmul_tuple 1 t l its.toArray n dd sl)
        ⟨ho, rfl, ⟨_, ho, rfl⟩, call_meets F.slot_tuple_mul ⟨_, ho, rfl⟩ F.entry_tuple_mul (F.args_tuple_mul_2 _ _) (mul_by1 l its.toArray n dd sl t) ⟨ho, .ref l, H, I, rfl, q⟩⟩)
  · refine wpAny_binaryOp_repeat_ref (T := "tuple") (U := "int") (by decide) ⟨_, ho, rfl⟩ (fun s' => typeIs_int s' 0 t) noFill_tuple_mul F.fills_int_mul F.slot_int_rmul repeat_tuple F.slot_int_index.lookup
      (call_meets F.slot_int_rmul (typeIs_int s 0 t) F.entry_int_rmul (F.args_int_rmul_2 _ _) (int_rmul_tuple 0 t l its.toArray n dd sl)
        ⟨ho, rfl, ⟨_, ho, rfl⟩, call_meets F.slot_tuple_mul ⟨_, ho, rfl⟩ F.entry_tuple_mul (F.args_tuple_mul_2 _ _) (mul_by0 l its.toArray n dd sl t hi) ⟨ho, ?_⟩⟩)
    exact made I .nil (Nat.zero_le _) q
/-- as opMul; tuples, too, times 0 or 1 -/
def opMulA (c : Bool) : D → D → Sto → Option (D × Sto)
  | .tup xs, .int k, S => if k = 1 ∧ xs.isEmpty = false then some (.tup xs, S) else if k = 0 ∧ xs.isEmpty = false then some (.tup [], S) else opMul c (.tup xs) (.int k) S
  | x, y, S => opMul c x y S
theorem rule_mulA {K : PySem.W.Frag} {T : List Addr} {c : Bool} : Rule2 K T (rOr (rMul K) (rRep01 K)) (opMulA c) := by
  intro Z H m S x y a b z S' Q ok rx ry f q
  unfold opMulA at f
  split at f
  · split at f
    · rename_i hc
      obtain ⟨rfl, hx⟩ := hc
      cases f
      cases ry
      cases rx with
      | tup h r =>
        refine .inr ⟨_, _, _, rfl, rfl, h, fun e => ?_, .inl ⟨rfl, q _ H m Ext.refl ok (.tup h r)⟩⟩
        subst e; cases r; cases hx
    · split at f
      · rename_i hc
        obtain ⟨rfl, hx⟩ := hc
        cases f
        cases ry
        cases rx with
        | tup h r =>
          refine .inr ⟨_, _, _, rfl, rfl, h, fun e => ?_, .inr ⟨rfl, fun p ob hp hb => ?_⟩⟩
          · subst e; cases r; cases hx
          · exact newTup (Q := Q) ok hp hb .nil (show okTup [] S = some (.tup [], S) from rfl) q
      · exact .inl (rule_mul Z H m S x y _ _ z S' Q ok rx ry f q)
  · exact .inl (rule_mul Z H m S x y _ _ z S' Q ok rx ry f q)
section
variable {X : Cx} {T : List Addr} {a b : Expr} {pos : Pos} {fa fb : DE}
theorem eMulA (l : Bool) (ha : PE X a (tD X.K T fa)) (hb : PE X b (tD X.K T fb)) : PE X (.BinOp a .Mult b pos) (tD X.K T (dBin (opMulA l) fa fb)) := rBin (pe_op (opOr opr_mul op_rep01) ha hb) rule_mulA
end
end Vw
set_option maxRecDepth 100000
set_option maxHeartbeats 4000000
namespace Vw
open PySem PySem.Spec PyProof.Rows L2
end Vw
set_option maxRecDepth 100000
set_option maxHeartbeats 4000000
namespace Vw
open PySem PySem.Spec PyProof.Rows L2
end Vw
set_option maxRecDepth 100000
set_option maxHeartbeats 4000000
namespace Vw
open PySem PySem.Spec PyProof.Rows L2
end Vw
set_option maxRecDepth 100000
set_option maxHeartbeats 4000000
namespace Vw
open PySem PySem.Spec PyProof.Rows L2
end Vw
set_option maxRecDepth 100000
set_option maxHeartbeats 4000000
namespace Vw
open PySem PySem.Spec PyProof.Rows L2
end Vw
set_option maxRecDepth 100000
set_option maxHeartbeats 4000000
namespace Vw
open PySem PySem.Spec L2
def d_bagC (c : Int) : DS :=
    (dSeq (dPar 1 2 (dCons (dLc false [3] (dSeqI (dSlL false (dVar 0) doNone (doSome (dCon (.int 63))))) (dgName 3) dYes (dBin (opAdd false) (dBin (opMul false) (dCon (.int 2)) (dCall opAbs (dCons (dVar 3) dNil))) (dCall opInt (dCons (dBin (opCmp fun i j => decide (i < j)) (dVar 3) (dCon (.int 0))) dNil)))) (dCons (dBin (opAdd false) (dCon (.int c)) (dCall opLen (dCons (dVar 0) dNil))) dNil)))
    (dSeq (dFor (dSeqI (dVar 1)) (dgName 3)
    (dSeq (dAsg (dBin opMod (dCall opInt (dCons (dBin (opAdd false) (dBin (opAdd false) (dBin (opMul false) (dVar 2) (dCon (.int 48271))) (dVar 3)) (dCon (.int 11))) dNil)) (dCon (.int 4294967291))) (dgName 2))
    dSkip))
    (dSeq (dRet (dDisp true [.inr ("far" : Str), .inr ("stirred" : Str), .inr ("turn" : Str)] (dCons (dLc true [3] (dSeqI (dVar 1)) (dgName 3) (dCmpT (opCmp fun i j => decide (j ≤ i)) (dVar 3) (dBin opPow (dCon (.int 10)) (dCon (.int 15)))) (dVar 3)) (dCons (dVar 2) (dCons (dCon (.int 0)) dNil)))))
    dSkip)))
def fn_bagC (c : Int) : DF := dDef 4 (d_bagC c)
theorem bag_okC {c : Int} (g0 : 0 ≤ c) (g1 : c ≤ 100000) (ns : List Int) (hl : ns.length ≤ 63) : ∃ S', fn_bagC c [.scr (intL ns)] [] = some (.loc 1, S') ∧ Bag 0 S' ∧ S'.length = 2 := by
  obtain ⟨ms, hms, hml⟩ := cut_ints ns none (some 63)
  let G0 : Gam := [some (.scr (intL ns)), none, none, none]
  -- the cells
  have hw : dSeqI (dSlL false (dVar 0) doNone (doSome (dCon (.int 63)))) G0 [] = some (fixS (intL ms), ms.length + 1, []) := by
    have q : dSlL false (dVar 0) doNone (doSome (dCon (.int 63))) G0 [] = some (.lst (intL ms), []) := by
      show okLst false (cutD (intL ns) none (some 63)) [] = _
      rw [hms]
      exact okv (by rw [intL_len]; omega)
    unfold dSeqI
    rw [q]
    simp only [Option.bind_some, srcD, seqD, Option.map_some, intL_len]
  obtain ⟨out, S1, e1, cs, rfl, hc0, hcl, rfl⟩ := lc_inv (src := fixS (intL ms)) (g := dgName 3) (t := dYes) (f := dBin (opAdd false) (dBin (opMul false) (dCon (.int 2)) (dCall opAbs (dCons (dVar 3) dNil))) (dCall opInt (dCons (dBin (opCmp fun i j => decide (i < j)) (dVar 3) (dCon (.int 0))) dNil))) (G := G0) (ds := intL ms)
    (fun i S' acc => ∃ cs : List Int, acc = intL cs ∧ (∀ x ∈ cs, 0 ≤ x) ∧ cs.length = i ∧ S' = []) (fun j S' acc h => rfl)
    (fun i S' acc d hd h => by
      obtain ⟨cs, rfl, h0, hlen, rfl⟩ := h
      have hi : i < ms.length := by have := (List.getElem?_eq_some_iff.mp hd).1; rwa [intL_len] at this
      rw [intL_get hi] at hd
      cases hd
      generalize ms[i] = z
      refine ⟨_, [], true, [], rfl, rfl, fun _ => ⟨.int (2 * (if z < 0 then -z else z) + (if decide (z < 0) = true then 1 else 0)), [], ?_, cs ++ [2 * (if z < 0 then -z else z) + (if decide (z < 0) = true then 1 else 0)], by simp [intL], fun x hx => ?_, by simp [hlen], rfl⟩, fun h => by cases h⟩
      · have m1 : ∀ y S, opMul false (.int 2) (.int y) S = some (.int (2 * y), S) := fun y S => mul_small (.inl (by decide))
        have a1 : ∀ S, opAbs [.int z] S = some (.int (if z < 0 then -z else z), S) := fun S => rfl
        have c1 : ∀ S, opCmp (fun i j => decide (i < j)) (.int z) (.int 0) S = some (.bl (decide (z < 0)), S) := fun S => rfl
        have i1 : ∀ b S, opInt [.bl b] S = some (.int (if b then 1 else 0), S) := fun b S => rfl
        show dBin _ _ _ (G0.set 3 (some (.int z))) [] = _
        simp only [dBin, dCon, dCall, dCons, dNil, dVar, G0, List.set_cons_succ, List.set_cons_zero, List.getElem?_cons_zero, List.getElem?_cons_succ, Option.bind_some, m1, a1, c1, i1, add_int]
      · rcases List.mem_append.mp hx with hx | hx
        · exact h0 x hx
        · rw [List.mem_singleton.mp hx]
          split <;> split <;> omega) ms.length 0 [] [] (by rw [intL_len]; omega) ⟨[], rfl, (fun x h => by cases h), rfl, rfl⟩
  rw [intL_len] at hcl
  have ec := dLc_of (c := false) (own := [3]) (G := G0) hw e1
  rw [okv (by rw [intL_len]; omega)] at ec
  have f1 : dPar 1 2 (dCons (dLc false [3] (dSeqI (dSlL false (dVar 0) doNone (doSome (dCon (.int 63))))) (dgName 3) dYes (dBin (opAdd false) (dBin (opMul false) (dCon (.int 2)) (dCall opAbs (dCons (dVar 3) dNil))) (dCall opInt (dCons (dBin (opCmp fun i j => decide (i < j)) (dVar 3) (dCon (.int 0))) dNil)))) (dCons (dBin (opAdd false) (dCon (.int c)) (dCall opLen (dCons (dVar 0) dNil))) dNil)) G0 [] = some (.nx, [some (.scr (intL ns)), some (.lst (intL cs)), some (.int (c + (ns.length : Int))), none], []) := by
    have q : dCons (dBin (opAdd false) (dCon (.int c)) (dCall opLen (dCons (dVar 0) dNil))) dNil G0 [] = some ([.int (c + (ns.length : Int))], []) := by
      have hlen := len_seq (S := []) (x := .scr (intL ns)) rfl
      rw [intL_len] at hlen
      simp only [dBin, dCon, dCall, dCons, dNil, dVar, G0, List.getElem?_cons_zero, Option.bind_some, hlen, add_int]
    unfold dPar
    show ((_ : Option (D × Sto)).bind fun p => (_ : Option (List D × Sto)).bind fun q => some (p.1 :: q.1, q.2)).bind _ = _
    rw [ec]
    show ((dCons (dBin (opAdd false) (dCon (.int c)) (dCall opLen (dCons (dVar 0) dNil))) dNil G0 []).bind fun q => some (D.lst (intL cs) :: q.1, q.2)).bind _ = _
    rw [q]; rfl
  -- stirring
  obtain ⟨G2, S2, e2, st, d3, rfl, hs0, hs1, rfl⟩ := for_inv (src := fixS (intL cs)) (g := dgName 3) (b := dSeq (dAsg (dBin opMod (dCall opInt (dCons (dBin (opAdd false) (dBin (opAdd false) (dBin (opMul false) (dVar 2) (dCon (.int 48271))) (dVar 3)) (dCon (.int 11))) dNil)) (dCon (.int 4294967291))) (dgName 2)) dSkip) (ds := intL cs)
    (fun i G' S' => ∃ (st : Int) (d3 : Option D), G' = [some (.scr (intL ns)), some (.lst (intL cs)), some (.int st), d3] ∧ 0 ≤ st ∧ st < 2 ^ 33 ∧ S' = []) (fun j G' S' h => rfl)
    (fun i G' S' d hd h => by
      obtain ⟨st, d3, rfl, h0, h1, rfl⟩ := h
      have hi : i < cs.length := by have := (List.getElem?_eq_some_iff.mp hd).1; rwa [intL_len] at this
      rw [intL_get hi] at hd
      cases hd
      generalize cs[i] = z
      have m1 : ∀ x S, opMul false (.int x) (.int 48271) S = some (.int (x * 48271), S) := fun x S => mul_small (.inr (by decide))
      have d2 : ∀ x S, opMod (.int x) (.int 4294967291) S = some (.int (x % 4294967291), S) := fun x S => mod_int (by decide)
      refine ⟨_, [], [some (.scr (intL ns)), some (.lst (intL cs)), some (.int ((st * 48271 + z + 11) % 4294967291)), some (.int z)], [], rfl, ?_, _, _, rfl, Int.emod_nonneg _ (by decide), ?_, rfl⟩
      · simp only [dSeq, dAsg, dgName, dBin, dVar, dCon, dIte, dCmpT, dTst, dLst, dNil, okLst, dSkip, dgSub, dCall, dCons, dRet, dMeth, dExpr, dCallF, dPar, dTup, dIf, dAndV, dOrV, dAnd, dOr, dNot, dNotV, dgTup, dgCons, dgNil, dRng1, dRng2, one1, two2, List.map_cons, List.map_nil, List.length_cons, List.length_nil, List.cons_append, List.nil_append, List.replicate, Option.bind_some, Option.map_some, List.getElem?_cons_zero, List.getElem?_cons_succ, List.set_cons_zero, List.set_cons_succ, if_true, Bool.false_eq_true, if_false, int_int, add_int, sub_int', Nat.zero_le, Nat.reduceAdd, Nat.reduceSub, decide_true, decide_false, Nat.reduceEqDiff, m1, d2]
      · have := Int.emod_lt_of_pos (st * 48271 + z + 11) (b := 4294967291) (by decide)
        omega) cs.length 0 [some (.scr (intL ns)), some (.lst (intL cs)), some (.int (c + (ns.length : Int))), none] [] (by rw [intL_len]; omega) ⟨_, _, rfl, by omega, by omega, rfl⟩
  have hw2 := seq_src (G := [some (.scr (intL ns)), some (.lst (intL cs)), some (.int (c + (ns.length : Int))), none]) (S := []) (i := 1) rfl
  rw [intL_len] at hw2
  have f2 := (dFor_of (g := dgName 3) (b := dSeq (dAsg (dBin opMod (dCall opInt (dCons (dBin (opAdd false) (dBin (opAdd false) (dBin (opMul false) (dVar 2) (dCon (.int 48271))) (dVar 3)) (dCon (.int 11))) dNil)) (dCon (.int 4294967291))) (dgName 2)) dSkip) hw2).trans e2
  -- the far ones
  have hw3 := seq_src (G := [some (.scr (intL ns)), some (.lst (intL cs)), some (.int st), d3]) (S := []) (i := 1) rfl
  rw [intL_len] at hw3
  obtain ⟨out3, S3, e3, far, rfl, hf0, hfl, rfl⟩ := lc_inv (src := fixS (intL cs)) (g := dgName 3) (t := dCmpT (opCmp fun i j => decide (j ≤ i)) (dVar 3) (dBin opPow (dCon (.int 10)) (dCon (.int 15)))) (f := dVar 3) (G := [some (.scr (intL ns)), some (.lst (intL cs)), some (.int st), none]) (ds := intL cs)
    (fun i S' acc => ∃ far : List Int, acc = intL far ∧ (∀ x ∈ far, 0 ≤ x) ∧ far.length ≤ i ∧ S' = []) (fun j S' acc h => rfl)
    (fun i S' acc d hd h => by
      obtain ⟨far, rfl, h0, hlen, rfl⟩ := h
      have hi : i < cs.length := by have := (List.getElem?_eq_some_iff.mp hd).1; rwa [intL_len] at this
      rw [intL_get hi] at hd
      cases hd
      have hz := hc0 _ (List.getElem_mem hi)
      generalize cs[i] = z at hz ⊢
      have p1 : ∀ S, opPow (.int 10) (.int 15) S = some (.int (10 ^ 15), S) := fun S => rfl
      have c1 : ∀ S, opCmp (fun i j => decide (j ≤ i)) (.int z) (.int (10 ^ 15)) S = some (.bl (decide ((10 : Int) ^ 15 ≤ z)), S) := fun S => rfl
      refine ⟨_, [], decide ((10 : Int) ^ 15 ≤ z), [], rfl, ?_, fun _ => ⟨.int z, [], ?_, far ++ [z], by simp [intL], fun x hx => ?_, by simp; omega, rfl⟩, fun _ => ⟨far, rfl, h0, by omega, rfl⟩⟩
      · simp only [dSeq, dAsg, dgName, dBin, dVar, dCon, dIte, dCmpT, dTst, dLst, dNil, okLst, dSkip, dgSub, dCall, dCons, dRet, dMeth, dExpr, dCallF, dPar, dTup, dIf, dAndV, dOrV, dAnd, dOr, dNot, dNotV, dgTup, dgCons, dgNil, dRng1, dRng2, one1, two2, List.map_cons, List.map_nil, List.length_cons, List.length_nil, List.cons_append, List.nil_append, List.replicate, Option.bind_some, Option.map_some, List.getElem?_cons_zero, List.getElem?_cons_succ, List.set_cons_zero, List.set_cons_succ, if_true, Bool.false_eq_true, if_false, int_int, add_int, sub_int', Nat.zero_le, Nat.reduceAdd, Nat.reduceSub, decide_true, decide_false, Nat.reduceEqDiff, p1, c1]
      · simp only [dSeq, dAsg, dgName, dBin, dVar, dCon, dIte, dCmpT, dTst, dLst, dNil, okLst, dSkip, dgSub, dCall, dCons, dRet, dMeth, dExpr, dCallF, dPar, dTup, dIf, dAndV, dOrV, dAnd, dOr, dNot, dNotV, dgTup, dgCons, dgNil, dRng1, dRng2, one1, two2, List.map_cons, List.map_nil, List.length_cons, List.length_nil, List.cons_append, List.nil_append, List.replicate, Option.bind_some, Option.map_some, List.getElem?_cons_zero, List.getElem?_cons_succ, List.set_cons_zero, List.set_cons_succ, if_true, Bool.false_eq_true, if_false, int_int, add_int, sub_int', Nat.zero_le, Nat.reduceAdd, Nat.reduceSub, decide_true, decide_false, Nat.reduceEqDiff]
      · rcases List.mem_append.mp hx with hx | hx
        · exact h0 x hx
        · rw [List.mem_singleton.mp hx]; exact hz) cs.length 0 [] [] (by rw [intL_len]; omega) ⟨[], rfl, (fun x h => by cases h), Nat.le_refl _, rfl⟩
  rw [intL_len] at hfl
  have e4 := dLc_of (c := true) (own := [3]) (G := [some (.scr (intL ns)), some (.lst (intL cs)), some (.int st), d3]) hw3 e3
  rw [okc (by rw [intL_len]; omega)] at e4
  refine ⟨[Cell.lst (intL far), Cell.dic KB [.loc 0, .int st, .int 0]], ?_, ⟨far, st, 0, [], rfl, hf0, by omega, hs0, hs1, by omega, by omega⟩, rfl⟩
  have f3 : dRet (dDisp true [.inr ("far" : Str), .inr ("stirred" : Str), .inr ("turn" : Str)] (dCons (dLc true [3] (dSeqI (dVar 1)) (dgName 3) (dCmpT (opCmp fun i j => decide (j ≤ i)) (dVar 3) (dBin opPow (dCon (.int 10)) (dCon (.int 15)))) (dVar 3)) (dCons (dVar 2) (dCons (dCon (.int 0)) dNil)))) [some (.scr (intL ns)), some (.lst (intL cs)), some (.int st), d3] [] = some (.rt (.loc 1), [some (.scr (intL ns)), some (.lst (intL cs)), some (.int st), d3], [Cell.lst (intL far), Cell.dic KB [.loc 0, .int st, .int 0]]) := by
    have q : (dCons (dLc true [3] (dSeqI (dVar 1)) (dgName 3) (dCmpT (opCmp fun i j => decide (j ≤ i)) (dVar 3) (dBin opPow (dCon (.int 10)) (dCon (.int 15)))) (dVar 3)) (dCons (dVar 2) (dCons (dCon (.int 0)) dNil))) [some (.scr (intL ns)), some (.lst (intL cs)), some (.int st), d3] [] = some ([.loc 0, .int st, .int 0], [Cell.lst (intL far)]) := by
      show ((_ : Option (D × Sto)).bind fun p => ((dCons (dVar 2) (dCons (dCon (.int 0)) dNil)) _ p.2).bind fun q => some (p.1 :: q.1, q.2)) = _
      rw [e4]; rfl
    unfold dRet dDisp
    rw [q]; rfl
  have f := (dSeq_nx f1).trans ((dSeq_nx f2).trans (dSeq_rt f3 (g := dSkip)))
  unfold fn_bagC dDef
  show (d_bagC c G0 []).bind _ = _
  unfold d_bagC
  rw [f]
  rfl
end Vw
set_option maxRecDepth 100000
set_option maxHeartbeats 4000000
namespace Vw
open PySem PySem.Spec PyProof.Rows L2
end Vw
set_option maxRecDepth 100000
set_option maxHeartbeats 4000000
namespace Vw
open PySem PySem.Spec PyProof.Rows L2 RZ
open PySem.Sem (wp)
/-- never reached -/
def dNever : DS := fun _ _ => none
theorem rNever {X : Cx} {T : List Addr} {st : Stmt} : PS X st (sD X.K T dNever) := psImp ps_never fun D σ H ⟨Z, G, S, m, fl, G', S', ok, en, f, q⟩ => by cases f
end Vw
set_option maxRecDepth 100000
set_option maxHeartbeats 4000000
namespace Vw
open PySem PySem.Spec PyProof.Rows L2
def strsD : List D → Option (List Str)
  | [] => some []
  | .str z :: ds => (strsD ds).map (z :: ·)
  | _ :: _ => none
theorem strs_ok {K : PySem.W.Frag × List Addr} {H : Hp} {m : List Addr} : ∀ {ds : List D} {xs : List V} {zs : List Str}, Reps K H m xs ds → strsD ds = some zs → xs = zs.map V.str
  | [], _, _, r, e => by cases r; cases e; rfl
  | .str z :: ds, _, _, r, e => by
    obtain ⟨ys, e1, rfl⟩ := Option.map_eq_some_iff.mp e
    cases r with
    | cons r1 rs =>
      cases r1
      rw [strs_ok rs e1]; rfl
  | .non :: _, _, _, _, e => by cases e
  | .bl _ :: _, _, _, _, e => by cases e
  | .int _ :: _, _, _, _, e => by cases e
  | .tup _ :: _, _, _, _, e => by cases e
  | .lst _ :: _, _, _, _, e => by cases e
  | .scr _ :: _, _, _, _, e => by cases e
  | .dic _ _ :: _, _, _, _, e => by cases e
  | .loc _ :: _, _, _, _, e => by cases e
end Vw
set_option maxRecDepth 100000
set_option maxHeartbeats 4000000
namespace Vw
open PySem PySem.Spec PyProof.Rows L2
/-- an exception as data: the name of its class, its fields -/
structure Exc where
  cls : Str
  fs : List (Str × D)
abbrev DX := Gam → Sto → Option (Exc × Sto)
abbrev SXF := Gam → Sto → Option (Exc × Gam × Sto)
abbrev DXF := List D → Sto → Option (Exc × Sto)
/-- an exception of the class at C, with its dict at dx -/
def XRep (K : PySem.W.Frag × List Addr) (mg : Str → Option Value) (H : Hp) (m : List Addr) (cls : Value) (dx : Option Addr) (e : Exc) : Prop :=
  ∃ C : Addr, cls = .ref C ∧ mg e.cls = some (.ref C) ∧ ((e.fs = [] ∧ dx = none) ∨
    ∃ (dd : Addr) (kvs : List (Str × V)), dx = some dd ∧ H dd = some (.xd kvs) ∧ kvs.map (·.1) = e.fs.map (·.1) ∧ Reps K H m (kvs.map (·.2)) (e.fs.map (·.2)))
theorem XRep.mono {K K0 : PySem.W.Frag × List Addr} {mg : Str → Option Value} {T : List Addr} {H H1 : Hp} {m m1 : List Addr} {S : Sto} {cls : Value} {dx : Option Addr} {e : Exc} (r : XRep K mg H m cls dx e) (x : Ext T H m H1 m1) (ok : Ok K0 T H m S) : XRep K mg H1 m1 cls dx e := by
  obtain ⟨C, e1, e2, h | ⟨dd, kvs, e3, hd, e4, rs⟩⟩ := r
  · exact ⟨C, e1, e2, .inl h⟩
  · refine ⟨C, e1, e2, .inr ⟨dd, kvs, e3, x.old dd _ hd (fun z => ?_) (fun z => ?_), e4, rs.mono x ok⟩⟩
    · rcases ok.cell z with ⟨ys, q⟩ | ⟨ys, q⟩ <;> · rw [hd] at q; cases q
    · obtain ⟨ps, q, _⟩ := ok.tab dd z
      rw [hd] at q; cases q
def tX (K : PySem.W.Frag) (T : List Addr) (mg : Str → Option Value) (W : WX) (f : DX) : TE := fun σ H _ => ∃ (Z : List Addr) (G : Gam) (S : Sto) (m : List Addr) (e : Exc) (S' : Sto), Ok (K, Z) T H m S ∧ EnvOk (K, Z) H m σ G ∧ f G S = some (e, S') ∧
  ∀ cls dx H' m', Ext T H m H' m' → Ok (K, Z) T H' m' S' → XRep (K, Z) mg H' m' cls dx e → W cls dx σ H'
def aX (K : PySem.W.Frag) (T : List Addr) (mg : Str → Option Value) (W : WX) (f : DX) : TA := fun σ H _ => ∃ (Z : List Addr) (G : Gam) (S : Sto) (m : List Addr) (e : Exc) (S' : Sto), Ok (K, Z) T H m S ∧ EnvOk (K, Z) H m σ G ∧ f G S = some (e, S') ∧
  ∀ cls dx H' m', Ext T H m H' m' → Ok (K, Z) T H' m' S' → XRep (K, Z) mg H' m' cls dx e → W cls dx σ H'
def sX (K : PySem.W.Frag) (T : List Addr) (mg : Str → Option Value) (W : WX) (f : SXF) : TS := fun _ σ H => ∃ (Z : List Addr) (G : Gam) (S : Sto) (m : List Addr) (e : Exc) (G' : Gam) (S' : Sto), Ok (K, Z) T H m S ∧ EnvOk (K, Z) H m σ G ∧ f G S = some (e, G', S') ∧
  ∀ σ' cls dx H' m', Ext T H m H' m' → Ok (K, Z) T H' m' S' → EnvOk (K, Z) H' m' σ' G' → XRep (K, Z) mg H' m' cls dx e → W cls dx σ' H'
section
variable {K : PySem.W.Frag} {Z : List Addr} {T : List Addr} {mg : Str → Option Value} {H : Hp} {m : List Addr} {S S1 : Sto} {σ : L2.St} {G G1 : Gam} {W : WX}
theorem tX.go {f : DX} {e : Exc} {Q : VK} (ok : Ok (K, Z) T H m S) (en : EnvOk (K, Z) H m σ G) (h : f G S = some (e, S1)) (q : ∀ cls dx H' m', Ext T H m H' m' → Ok (K, Z) T H' m' S1 → XRep (K, Z) mg H' m' cls dx e → W cls dx σ H') : tX K T mg W f σ H Q := ⟨Z, G, S, m, e, S1, ok, en, h, q⟩
theorem aX.go {f : DX} {e : Exc} {Q : List V → Hp → Prop} (ok : Ok (K, Z) T H m S) (en : EnvOk (K, Z) H m σ G) (h : f G S = some (e, S1)) (q : ∀ cls dx H' m', Ext T H m H' m' → Ok (K, Z) T H' m' S1 → XRep (K, Z) mg H' m' cls dx e → W cls dx σ H') : aX K T mg W f σ H Q := ⟨Z, G, S, m, e, S1, ok, en, h, q⟩
theorem sX.go {f : SXF} {e : Exc} {Dn : Ends} (ok : Ok (K, Z) T H m S) (en : EnvOk (K, Z) H m σ G) (h : f G S = some (e, G1, S1)) (q : ∀ σ' cls dx H' m', Ext T H m H' m' → Ok (K, Z) T H' m' S1 → EnvOk (K, Z) H' m' σ' G1 → XRep (K, Z) mg H' m' cls dx e → W cls dx σ' H') : sX K T mg W f Dn σ H := ⟨Z, G, S, m, e, G1, S1, ok, en, h, q⟩
end
section
variable {X : Cx} {T : List Addr} {W : WX} {e a b c : Expr} {es : List Expr} {st : Stmt} {rest body : List Stmt} {pos p : Pos} {f fa fb : DE} {xf xa xb : DX} {fs : DA} {t : DT} {g : DG} {I : List Nat} {d d2 : DS} {xd xd2 : SXF} {w : DI}
def sxNo : SXF := fun _ _ => none
theorem xHd (h : PE X e (tX X.K T X.mg W xf)) (hr : PA X es (tA X.K T fs)) (hs : starEach (e :: es) X.env = (false, eval e X.env) :: starEach es X.env) : PA X (e :: es) (aX X.K T X.mg W xf) := paImp (pa_cons h hr hs) fun _ _ _ q => q
theorem xLst (h : PA X es (aX X.K T X.mg W xa)) : PE X (.List es pos) (tX X.K T X.mg W xa) := peImp (pe_lst h) fun _ _ _ q => q
/-- a if t else b -/
def dxIf (ft : DT) (fa fb : DX) : DX := fun G S => (ft G S).bind fun p => if p.1 = true then fa G p.2 else fb G p.2
theorem xIf (hc : PT X c (tB X.K T t)) (ha : PE X a (tX X.K T X.mg W xa)) (hb : PE X b (tX X.K T X.mg W xb)) : PE X (.IfExp c a b pos) (tX X.K T X.mg W (dxIf t xa xb)) := by
  refine peImp (pe_ifExp hc ha hb) fun σ H Q ⟨Z, G, S, m, x, S', ok, en, f, q⟩ => ?_
  unfold dxIf at f
  obtain ⟨⟨y, S1⟩, e1, f⟩ := Option.bind_eq_some_iff.mp f
  refine tB.go ok en e1 fun H1 m1 x1 o1 en1 => ?_
  have go : ∀ {xc : DX}, xc G S1 = some (x, S') → ∀ Q, tX X.K T X.mg W xc σ H1 Q := fun fx Q => tX.go o1 en1 fx fun cls dx H2 m2 x2 o2 r2 => q cls dx H2 m2 (x1.trans x2) o2 r2
  cases y with
  | true => exact go (xc := xa) f Q
  | false => exact go (xc := xb) f Q
def sxE (f : DX) : SXF := fun G S => (f G S).map fun p => (p.1, G, p.2)
theorem sxE_tX {K : PySem.W.Frag} {mg : Str → Option Value} {D : Ends} {σ : L2.St} {H : Hp} {Q : VK} (h : sX K T mg W (sxE xf) D σ H) : tX K T mg W xf σ H Q := by
  obtain ⟨Z, G, S, m, x, G', S', ok, en, f, q⟩ := h
  unfold sxE at f
  obtain ⟨⟨y, S1⟩, e1, f⟩ := Option.map_eq_some_iff.mp f
  cases f
  exact tX.go ok en e1 fun cls dx H2 m2 x2 o2 r2 => q σ cls dx H2 m2 x2 o2 (en.mono x2 ok) r2
theorem xRet (h : PE X e (tX X.K T X.mg W xf)) : PS X (.Return (some e) pos) (sX X.K T X.mg W (sxE xf)) := psImp (ps_ret h) fun D σ H q => sxE_tX q
theorem xNoS (h : PS X st (sD X.K T d)) : PS X st (sX X.K T X.mg W sxNo) := psImp h fun _ _ _ ⟨_, _, _, _, _, _, _, _, _, z, _⟩ => nomatch z
theorem xNoSs (h : PSs X rest (sD X.K T d)) : PSs X rest (sX X.K T X.mg W sxNo) := pssImp h fun _ _ _ ⟨_, _, _, _, _, _, _, _, _, z, _⟩ => nomatch z
/-- a statement, then others: it raises, or it goes on and they raise -/
def sxSeq (f : DS) (xf xg : SXF) : SXF := fun G S => match xf G S with
  | some r => some r
  | none => (f G S).bind fun p => match p.1 with
    | .nx => xg p.2.1 p.2.2
    | _ => none
theorem xSeq (h1 : PS X st (sD X.K T d)) (h1x : PS X st (sX X.K T X.mg W xd)) (h2 : PSs X rest (sX X.K T X.mg W xd2)) : PSs X (st :: rest) (sX X.K T X.mg W (sxSeq d xd xd2)) := by
  refine pssImp (pss_cons (psOr h1 h1x) h2) fun D σ H ⟨Z, G, S, m, x, G', S', ok, en, f, q⟩ => ?_
  unfold sxSeq at f
  split at f
  · rename_i r er
    cases f
    exact .inr ⟨Z, G, S, m, x, G', S', ok, en, er, q⟩
  · obtain ⟨⟨fl, G1, S1⟩, e1, f⟩ := Option.bind_eq_some_iff.mp f
    refine .inl (sD.go ok en e1 fun H1 m1 x1 o1 => ?_)
    cases fl with
    | nx => exact fun σ1 en1 => sX.go (Dn := D) o1 en1 f fun σ' cls dx H2 m2 x2 o2 en2 r2 => q σ' cls dx H2 m2 (x1.trans x2) o2 en2 r2
    | rt d => cases f
    | bk => cases f
    | ct => cases f
def sxIte (t : DT) (f g : SXF) : SXF := fun G S => (t G S).bind fun p => if p.1 = true then f G p.2 else g G p.2
theorem xIte {sa sb : List Stmt} (hc : PT X c (tB X.K T t)) (ha : PSs X sa (sX X.K T X.mg W xd)) (hb : PSs X sb (sX X.K T X.mg W xd2)) : PS X (.If c sa sb pos) (sX X.K T X.mg W (sxIte t xd xd2)) := by
  refine psImp (ps_if hc ha hb) fun D σ H ⟨Z, G, S, m, x, G', S', ok, en, f, q⟩ => ?_
  unfold sxIte at f
  obtain ⟨⟨y, S1⟩, e1, f⟩ := Option.bind_eq_some_iff.mp f
  refine tB.go ok en e1 fun H1 m1 x1 o1 en1 => ?_
  have go : ∀ {xc : SXF}, xc G S1 = some (x, G', S') → sX X.K T X.mg W xc D σ H1 := fun fx => sX.go o1 en1 fx fun σ' cls dx H2 m2 x2 o2 en2 r2 => q σ' cls dx H2 m2 (x1.trans x2) o2 en2 r2
  cases y with
  | true => exact go (xc := xd) f
  | false => exact go (xc := xd2) f
/-- a walk whose body raises at some turn -/
def sxLoop (src : Src) (g : DG) (b : DS) (xb : SXF) : Nat → Nat → SXF
  | 0, _ => fun _ _ => none
  | n + 1, i => fun G S => (src i S).bind fun o => match o with
    | none => none
    | some d => (g d G S).bind fun p => match xb p.1 p.2 with
      | some r => some r
      | none => (b p.1 p.2).bind fun q => match q.1 with
        | .nx => sxLoop src g b xb n (i + 1) q.2.1 q.2.2
        | .ct => sxLoop src g b xb n (i + 1) q.2.1 q.2.2
        | _ => none
def sxFor (w : DI) (g : DG) (b : DS) (xb : SXF) : SXF := fun G S => (w G S).bind fun p => sxLoop p.1 g b xb p.2.1 0 G p.2.2
theorem pssOr {t t' : TS} (h : PSs X rest t) (h' : PSs X rest t') : PSs X rest (fun D σ H => t D σ H ∨ t' D σ H) :=
  ⟨fun pins s σ H D I q => q.elim (h.run pins s σ H D I) (h'.run pins s σ H D I)⟩
theorem xFor {tg it : Expr} (hp : PassesOwn (model X.prog X.w) X.A X.env X.xe) (hc : X.calm = true) (hi : PI X tg it (iD X.K T w)) (hg : PG X tg (gD X.K T I g)) (hb : PSs X body (sD X.K T d)) (hbx : PSs X body (sX X.K T X.mg W xd)) (hs : ∀ x, foldedSetIterable it X.env x = pure x) : PS X (.For tg it body [] pos) (sX X.K T X.mg W (sxFor w g d xd)) := by
  refine psImp (ps_for hp hc hi hg (pssOr hb hbx) hs) fun D σ H ⟨Z, G, S, m, x, G', S', ok, en, f, q⟩ => ?_
  unfold sxFor at f
  obtain ⟨⟨src, n, S0⟩, e0, f⟩ := Option.bind_eq_some_iff.mp f
  refine ⟨Z, G, S, m, src, n, S0, ok, en, e0, fun J H0 m0 x0 o0 itk => ?_⟩
  refine ⟨fun i k σ H => ∃ (G : Gam) (S : Sto) (m : List Addr), Ext T H0 m0 H m ∧ Ok (X.K, Z) T H m S ∧ EnvOk (X.K, Z) H m σ G ∧ sxLoop src g d xd k i G S = some (x, G', S') ∧
      ∀ σ' cls dx H' m', Ext T H m H' m' → Ok (X.K, Z) T H' m' S' → EnvOk (X.K, Z) H' m' σ' G' → XRep (X.K, Z) X.mg H' m' cls dx x → W cls dx σ' H',
    ⟨n, G, S0, m0, Ext.refl, o0, en.mono x0 ok, f, fun σ' cls dx H' m' x o en r => q σ' cls dx H' m' (x0.trans x) o en r⟩, ?_⟩
  rintro i k σ1 H1 ⟨G1, S1, m1, x1, o1, en1, f1, q1⟩
  cases k with
  | zero => cases f1
  | succ k =>
    unfold sxLoop at f1
    obtain ⟨o, e1, f2⟩ := Option.bind_eq_some_iff.mp f1
    have tt := itk [] i H1 m1 S1 (fun a h => by cases h) x1.h o1
    rw [e1] at tt
    cases o with
    | none => cases f2
    | some dv =>
      obtain ⟨⟨G2, S2⟩, e2, f3⟩ := Option.bind_eq_some_iff.mp f2
      refine .inr ⟨tt.1, fun σ' H' => ∃ (G : Gam) (S : Sto) (m : List Addr), Ext T H0 m0 H' m ∧ Ok (X.K, Z) T H' m S ∧ EnvOk (X.K, Z) H' m σ' G ∧ sxLoop src g d xd k (i + 1) G S = some (x, G', S') ∧
          ∀ σ'' cls dx H2 m2, Ext T H' m H2 m2 → Ok (X.K, Z) T H2 m2 S' → EnvOk (X.K, Z) H2 m2 σ'' G' → XRep (X.K, Z) X.mg H2 m2 cls dx x → W cls dx σ'' H2,
        fun σ' H' w => ⟨k, Nat.lt_succ_self k, w⟩, fun v H' y => ?_⟩
      obtain ⟨m', x', o', r'⟩ := tt.2 v H' y
      refine ⟨Z, dv, G1, S1, m', G2, S2, o', en1.mono x' o1, r', e2, fun σ2 H2 m2 x2 o2 en2 _ => ?_⟩
      have x12 := x'.trans x2
      dsimp only at f3
      split at f3
      · rename_i r er
        cases f3
        exact .inr (sX.go o2 en2 er fun σ'' cls dx H3 m3 x3 o3 en3 r3 => q1 σ'' cls dx H3 m3 (x12.trans x3) o3 en3 r3)
      · obtain ⟨⟨fl3, G3, S3⟩, e3, f4⟩ := Option.bind_eq_some_iff.mp f3
        refine .inl (sD.go o2 en2 e3 fun H3 m3 x3 o3 => ?_)
        have xx := x12.trans x3
        have nxt : sxLoop src g d xd k (i + 1) G3 S3 = some (x, G', S') → ∀ σ3, EnvOk (X.K, Z) H3 m3 σ3 G3 → ∃ (G : Gam) (S : Sto) (m : List Addr), Ext T H0 m0 H3 m ∧ Ok (X.K, Z) T H3 m S ∧ EnvOk (X.K, Z) H3 m σ3 G ∧ sxLoop src g d xd k (i + 1) G S = some (x, G', S') ∧
          ∀ σ'' cls dx H2 m2, Ext T H3 m H2 m2 → Ok (X.K, Z) T H2 m2 S' → EnvOk (X.K, Z) H2 m2 σ'' G' → XRep (X.K, Z) X.mg H2 m2 cls dx x → W cls dx σ'' H2 :=
          fun f5 σ3 en3 => ⟨G3, S3, m3, x1.trans xx, o3, en3, f5, fun σ'' cls dx H4 m4 x4 o4 en4 r4 => q1 σ'' cls dx H4 m4 (xx.trans x4) o4 en4 r4⟩
        cases fl3 with
        | nx => exact fun σ3 en3 => nxt f4 σ3 en3
        | ct => exact fun σ3 en3 => nxt f4 σ3 en3
        | bk => cases f4
        | rt d' => cases f4
end
end Vw
set_option maxRecDepth 100000
set_option maxHeartbeats 4000000
namespace Vw
open PySem PySem.Spec PyProof.Rows L2
def spX (K : PySem.W.Frag) (T : List Addr) (mg : Str → Option Value) (n : Nat) (fn : DF) (xfn : DXF) : Sp := fun vs H Q E => ∃ (Z : List Addr) (S : Sto) (m : List Addr) (ds : List D), vs.length = n ∧ Ok (K, Z) T H m S ∧ Reps (K, Z) H m vs ds ∧
  ((∃ (d : D) (S' : Sto), fn ds S = some (d, S') ∧ ∀ v H' m', Ext T H m H' m' → Ok (K, Z) T H' m' S' → Rep (K, Z) H' m' v d → Q v H') ∨
    ∃ (e : Exc) (S' : Sto), xfn ds S = some (e, S') ∧ ∀ cls dx H' m', Ext T H m H' m' → Ok (K, Z) T H' m' S' → XRep (K, Z) mg H' m' cls dx e → E cls dx H')
/-- a def by its body: what it raises -/
def dxDef (N : Nat) (xb : SXF) : DXF := fun ds S => (xb (ds.map some ++ List.replicate (N - ds.length) none) S).map fun r => (r.1, r.2.2)
theorem fnG_X {P : Program} {w : World} {K : PySem.W.Frag} {mg : Str → Option Value} {base : Heap} {k : Nat} {f : Addr} {x qual : Str} {st : Stmt} {fd : FuncData} {N ps : List Str} {T : List Addr} {b : DS} {xb : SXF}
    (F : Fun K x qual st f fd) (S : FnScope N ps (defScope st))
    (body : ∀ (cdv : Value) (A : Around) (outer : List Env) (s : Shared) (H : Hp) (E : XK), fd.code = cdv → Clr A → Room k (A.deeper (envOfC qual (defScope st) s.heap.objs.size f cdv)) →
      PSs (cxOf (L2.CX P w) P w K mg base N qual (defScope st) f cdv A outer s H E) (defBody st) (sD K T b) ∧
        PSs (cxOf (L2.CX P w) P w K mg base N qual (defScope st) f cdv A outer s H E) (defBody st) (sX K T mg (fun cls dx _ H' => E cls dx H') xb)) :
    FnG P w K mg base (L2.CX P w) (k + 1) f fd ps (spX K T mg ps.length (dDef N.length b) (dxDef N.length xb)) := by
  refine fnG_of F S (fun vs H Q E h => ?_) (fun cdv A outer s H vs Q E hcd _ hc' hr h => ?_)
  · obtain ⟨_, _, _, _, h, _⟩ := h; exact h
  · obtain ⟨B1, B2⟩ := body cdv A outer s H E hcd hc' hr
    refine ⟨_, pssOr B1 B2, ?_⟩
    obtain ⟨Z, S1, m, ds, hl, ok, rs, h⟩ := h
    have hst : L2.start N vs = vs.map some ++ List.replicate (N.length - ds.length) none := by
      unfold L2.start
      rw [← rs.len]
    rw [hst]
    rcases h with ⟨d, S', e, q⟩ | ⟨ex, S', e, q⟩
    · refine .inl ?_
      unfold dDef at e
      obtain ⟨⟨fl, G', S2⟩, e1, e2⟩ := Option.bind_eq_some_iff.mp e
      refine sD.go ok (reps_env _ rs) e1 fun H' m' x' o' => ?_
      cases fl with
      | rt d0 =>
        cases e2
        intro v rv
        exact q v H' m' x' o' rv
      | nx =>
        cases e2
        intro σ' _
        exact q .non H' m' x' o' .non
      | bk => cases e2
      | ct => cases e2
    · refine .inr ?_
      unfold dxDef at e
      obtain ⟨⟨ex2, G', S2⟩, e1, e2⟩ := Option.map_eq_some_iff.mp e
      cases e2
      exact sX.go ok (reps_env _ rs) e1 fun σ' cls dx H' m' x' o' _ r' => q cls dx H' m' x' o' r'
theorem FnG.imp {P : Program} {w : World} {K : PySem.W.Frag} {mg : Str → Option Value} {base : Heap} {CX : CXT} {k : Nat} {f : Addr} {fd : FuncData} {ps : List Str} {sp sp' : Sp} (F : FnG P w K mg base CX k f fd ps sp) (h : ∀ vs H Q E, sp' vs H Q E → sp vs H Q E) : FnG P w K mg base CX k f fd ps sp' where
  len := fun vs H Q E q => F.len vs H Q E (h _ _ _ _ q)
  run := fun A outer s H args us vs Q E hr hc he hb hv hs => F.run A outer s H args us vs Q E hr hc he hb hv (h _ _ _ _ hs)
structure CalX (P : Program) (w : World) (K : PySem.W.Frag) (mg : Str → Option Value) (base : Heap) (T : List Addr) (k : Nat) (x : Str) (st : Stmt) (ps : List Str) (fn : DF) (xfn : DXF) : Prop where
  ex : ∃ (f : Addr) (fd : FuncData), FnG P w K mg base (L2.CX P w) k f fd ps (spX K T mg ps.length fn xfn) ∧ mg x = some (.ref f) ∧ Fun K x x st f fd ∧ Binds K fd ps []
theorem CalX.ok {P : Program} {w : World} {K : PySem.W.Frag} {mg : Str → Option Value} {base : Heap} {T : List Addr} {k : Nat} {x : Str} {st : Stmt} {ps : List Str} {fn : DF} {xfn : DXF} (C : CalX P w K mg base T k x st ps fn xfn) : Cal P w K mg base T k x st ps fn := by
  obtain ⟨f, fd, F, h⟩ := C.ex
  refine ⟨f, fd, F.imp fun vs H Q E q => ?_, h⟩
  obtain ⟨Z, S, m, ds, d, S', h1, h2, h3, h4, h5⟩ := q
  exact ⟨Z, S, m, ds, h1, h2, h3, .inl ⟨d, S', h4, h5⟩⟩
theorem calX_of {P : Program} {w : World} {K : PySem.W.Frag} {mg : Str → Option Value} {base : Heap} {T : List Addr} {k : Nat} {x : Str} {st : Stmt} {f : Addr} {fd : FuncData} {N ps : List Str} {b : DS} {xb : SXF} (F : Fun K x x st f fd) (hm : mg x = some (.ref f)) (S : FnScope N ps (defScope st)) (hb : Binds K fd ps [])
    (body : ∀ (cdv : Value) (A : Around) (outer : List Env) (s : Shared) (H : Hp) (E : XK), fd.code = cdv → Clr A → Room k (A.deeper (envOfC x (defScope st) s.heap.objs.size f cdv)) →
      PSs (cxOf (L2.CX P w) P w K mg base N x (defScope st) f cdv A outer s H E) (defBody st) (sD K T b) ∧
        PSs (cxOf (L2.CX P w) P w K mg base N x (defScope st) f cdv A outer s H E) (defBody st) (sX K T mg (fun cls dx _ H' => E cls dx H') xb)) :
    CalX P w K mg base T (k + 1) x st ps (dDef N.length b) (dxDef N.length xb) := ⟨f, fd, fnG_X F S body, hm, F, hb⟩
section
variable {X : Cx} {T : List Addr} {W : WX} {k j : Nat} {x : Str} {st : Stmt} {ps ks : List Str} {fn : DF} {xfn : DXF} {p pos : Pos} {e : Expr} {es : List Expr} {kws : List Keyword} {fa fk : DA} {xa : DX} {np n nk : Nat} {ix : List Nat}
theorem run_X {pins : List (Addr × Obj)} {σ : L2.St} {H : Hp} {s : Shared} {Q : VK} {zs : List Value} {vs : List V} {args : Args} {f : Addr} {fd : FuncData} {sp : Sp} (F : FnG X.prog X.w X.K X.mg X.base (L2.CX X.prog X.w) k f fd ps sp) (hr : Room k X.A) (hc : Clr X.A) (tk : Takes X W)
    (I : Inv X pins σ H s) (hb : BindsTo s fd args (ps.zip zs)) (r : Vals vs zs) (h : sp vs H Q (fun cls dx H' => W cls dx σ H')) : codeAny (model X.prog X.w) X.A (.call (.ref f) args) (fun r s' => match r with | .ok (.ret u) => EP X pins σ Q u s' | .ok _ => False | .error e => X.xe e s') s := by
  refine codeAny_mono (F.run X.A X.stack s H args zs vs Q _ hr hc I.env0 hb r h) fun r s' hq => ?_
  cases r with
  | error e => exact tk _ _ (XE.of_call I (fun _ _ _ z => z) hq)
  | ok fl =>
    cases fl with
    | ret u => exact I.after hq
    | next => exact hq
    | brk => exact hq
    | cont => exact hq
def dxCall (n : Nat) (fa : DA) (xfn : DXF) : DX := fun G S => (fa G S).bind fun p => if p.1.length = n then xfn p.1 p.2 else none
theorem xCal (C : CalX X.prog X.w X.K X.mg X.base T k x st ps fn xfn) (F : Fit X j) (hk : k ≤ j) (tk : Takes X W) (hg : Gl X x) (ha : PA X (e :: es) (tA X.K T fa)) (hdb : (x == ("__debug__" : Str)) = false := by decide)
    (he : starEach (e :: es) X.env = (false, eval e X.env) :: starEach es X.env := by rfl) (hpl : (backTo pos (starEach es X.env)).any (·.1) = false := by rfl) (hn : ps.length = n := by rfl) : PE X (.Call (.Name x p) (e :: es) [] pos) (tX X.K T X.mg W (dxCall n fa xfn)) := by
  subst hn
  obtain ⟨f, fd, F1, F2, F3, F4⟩ := C.ex
  refine ⟨fun pins s σ H Q I ⟨Z, G, S, m, ex, S', ok, en, g, q⟩ => ?_⟩
  unfold dxCall at g
  obtain ⟨⟨ds, S1⟩, e1, e2⟩ := Option.bind_eq_some_iff.mp g
  refine wpAny_Call_Name_kw (ld_glob I hg F2 ?_ hdb)
  have hA := ha.run pos pins s σ H (fun vs H1 => ∃ m1, Ext T H m H1 m1 ∧ Ok (X.K, Z) T H1 m1 S1 ∧ Reps (X.K, Z) H1 m1 vs ds) I (tA.go ok en e1 fun vs H1 m1 x1 o1 _ r1 => ⟨m1, x1, o1, r1⟩)
  refine PySem.W.callWith_K (h₀ := X.base) I.ok.mod.kin F3.kp (thn hA fun us s1 hh => ?_) he hpl
  obtain ⟨vs, H1, I1, r, m1, x1, o1, r1⟩ := hh
  refine ⟨I1.kIn, ?_⟩
  split at e2
  case isFalse => cases e2
  rename_i hl
  have hvn : vs.length = ps.length := by rw [r1.len]; exact hl
  have hun : (us ++ []).length = ps.length := by rw [List.append_nil, ← r.length, hvn]
  have b := F4 s1 us I1.kIn hun
  rw [List.append_nil] at b
  have go := run_X (Q := Q) (W := W) F1 (F.room.mono hk) F.clr tk I1 b r ⟨Z, S1, m1, ds, hvn, o1, r1, .inr ⟨ex, S', e2, fun cls dx H' m' x' o' r' => q cls dx H' m' (x1.trans x') o' r'⟩⟩
  refine wpAny_call (codeAny_mono go fun r s' hq => ?_)
  cases r with
  | error e => exact hq
  | ok fl => cases fl <;> exact hq
def dxCallW (n np nk : Nat) (ix : List Nat) (fa fk : DA) (xfn : DXF) : DX := fun G S => (fa G S).bind fun p => (fk G p.2).bind fun r => if p.1.length = np ∧ r.1.length = nk ∧ (pick ix (p.1 ++ r.1)).length = n then xfn (pick ix (p.1 ++ r.1)) r.2 else none
theorem xCalK0 (C : CalX X.prog X.w X.K X.mg X.base T k x st ps fn xfn) (F : Fit X j) (hk : k ≤ j) (tk : Takes X W) (hg : Gl X x) (hb : KwOk x st ps ks 0 ix) (ha : PKD X T kws fk) (hall : (backToKw pos (keywordEach kws X.env)).all (·.1.isSome) = true) (hks : (backToKw pos (keywordEach kws X.env)).filterMap (·.1) = ks)
    (hpl : ((backTo pos (starEach [] X.env)).any (·.1) || (backToKw pos (keywordEach kws X.env)).any (·.1.isNone)) = false) (hdb : (x == ("__debug__" : Str)) = false := by decide) (hn : ps.length = n := by rfl) (hk2 : ks.length = nk := by rfl) : PE X (.Call (.Name x p) [] kws pos) (tX X.K T X.mg W (dxCallW n 0 nk ix dNone fk xfn)) := by
  subst hn hk2
  obtain ⟨f, fd, F1, F2, F3, F4⟩ := C.ex
  have hb' := kwB_of F3 hb
  refine ⟨fun pins s σ H Q I ⟨Z, G, S, m, ex, S', ok, en, g, q⟩ => ?_⟩
  unfold dxCallW dNone at g
  obtain ⟨⟨ds0, S0⟩, e0, g⟩ := Option.bind_eq_some_iff.mp g
  cases e0
  obtain ⟨⟨ds, S1⟩, e1, e2⟩ := Option.bind_eq_some_iff.mp g
  refine wpAny_Call_Name_kw (ld_glob I hg F2 ?_ hdb)
  have hA := ha.pk.run pos pins s σ H (fun vs H1 => ∃ m1, Ext T H m H1 m1 ∧ Ok (X.K, Z) T H1 m1 S1 ∧ Reps (X.K, Z) H1 m1 vs ds) I (tA.go ok en e1 fun vs H1 m1 x1 o1 _ r1 => ⟨m1, x1, o1, r1⟩)
  refine PySem.W.callWith_KW0 (h₀ := X.base) I.ok.mod.kin F3.kp hall (thn hA fun ws s1 hh => ?_) hpl
  obtain ⟨vs, H1, I1, r, m1, x1, o1, r1⟩ := hh
  refine ⟨I1.kIn, ?_⟩
  rw [hks]
  split at e2
  case isFalse => cases e2
  rename_i hl
  obtain ⟨_, hl1, hl2⟩ := hl
  have hw : ws.length = ks.length := by rw [← r.length, r1.len]; exact hl1
  have b := hb'.to s1 [] ws I1.kIn rfl hw
  have rp := pick_reps r1 ix
  have hvn : (pick ix vs).length = ps.length := by rw [rp.len]; exact hl2
  have go := run_X (Q := Q) (W := W) F1 (F.room.mono hk) F.clr tk I1 b (pick_vals r ix) ⟨Z, S1, m1, pick ix ds, hvn, o1, rp, .inr ⟨ex, S', e2, fun cls dx H' m' x' o' r' => q cls dx H' m' (x1.trans x') o' r'⟩⟩
  refine wpAny_call (codeAny_mono go fun r s' hq => ?_)
  cases r with
  | error e => exact hq
  | ok fl => cases fl <;> exact hq
end
end Vw
set_option maxRecDepth 100000
set_option maxHeartbeats 4000000
namespace Vw
open PySem PySem.Spec PyProof.Rows L2
theorem fit_tr {X : Cx} {k : Nat} (F : Fit X k) (pn : List (Addr × Obj)) (xe : Value → Shared → Prop) : Fit (X.tr pn xe) k := ⟨F.calm, F.nd, F.room, F.clr⟩
theorem EnvOk.any {K : PySem.W.Frag × List Addr} {H : Hp} {m : List Addr} {σ : L2.St} {G : Gam} (e : EnvOk K H m σ G) (i : Nat) (v : Option V) : EnvOk K H m (σ.set i v) (G.set i none) := by
  refine ⟨by simp [e.len], fun j d h => ?_⟩
  by_cases hi : i = j
  · subst hi
    by_cases hl : i < G.length
    · rw [List.getElem?_set_self hl] at h; cases h
    · rw [List.getElem?_eq_none (by simpa using hl)] at h; cases h
  · rw [List.getElem?_set_ne hi] at h
    obtain ⟨w, a, r⟩ := e.at_ j d h
    exact ⟨w, by rw [List.getElem?_set_ne hi]; exact a, r⟩
abbrev ES := Exc → DS
abbrev EE := Exc → DE
abbrev EA := Exc → DA
def sU (K : PySem.W.Frag) (T : List Addr) (mg : Str → Option Value) (P : L2.St → Prop) (cls : Value) (dx : Option Addr) (su : ES) : TS := fun Dn σ H => P σ ∧ ∃ (Z : List Addr) (G : Gam) (S : Sto) (m : List Addr) (e : Exc) (fl : Fl) (G' : Gam) (S' : Sto), Ok (K, Z) T H m S ∧ EnvOk (K, Z) H m σ G ∧ XRep (K, Z) mg H m cls dx e ∧ su e G S = some (fl, G', S') ∧
  ∀ H' m', Ext T H m H' m' → Ok (K, Z) T H' m' S' → Fin1 (K, Z) Dn fl G' H' m'
def eU (K : PySem.W.Frag) (T : List Addr) (mg : Str → Option Value) (P : L2.St → Prop) (cls : Value) (dx : Option Addr) (f : EE) : TE := fun σ H Q => P σ ∧ ∃ (Z : List Addr) (G : Gam) (S : Sto) (m : List Addr) (e : Exc) (d : D) (S' : Sto), Ok (K, Z) T H m S ∧ EnvOk (K, Z) H m σ G ∧ XRep (K, Z) mg H m cls dx e ∧ f e G S = some (d, S') ∧
  ∀ v H' m', Ext T H m H' m' → Ok (K, Z) T H' m' S' → Rep (K, Z) H' m' v d → Q v H'
def aU (K : PySem.W.Frag) (T : List Addr) (mg : Str → Option Value) (P : L2.St → Prop) (cls : Value) (dx : Option Addr) (f : EA) : TA := fun σ H Q => P σ ∧ ∃ (Z : List Addr) (G : Gam) (S : Sto) (m : List Addr) (e : Exc) (d : List D) (S' : Sto), Ok (K, Z) T H m S ∧ EnvOk (K, Z) H m σ G ∧ XRep (K, Z) mg H m cls dx e ∧ f e G S = some (d, S') ∧
  ∀ v H' m', Ext T H m H' m' → Ok (K, Z) T H' m' S' → Reps (K, Z) H' m' v d → Q v H'
section
variable {Y : Cx} {K : PySem.W.Frag} {T : List Addr} {mg : Str → Option Value} {P : L2.St → Prop} {cls : Value} {dx : Option Addr} {e : Expr} {es : List Expr} {pos p : Pos} {f : EE} {fs : EA} {g : DE}
theorem uD (h : PE Y e (tD Y.K T g)) : PE Y e (eU Y.K T mg P cls dx (fun _ => g)) := peImp h fun σ H Q ⟨_, Z, G, S, m, e, d, S', ok, en, r, f, q⟩ => ⟨Z, G, S, m, d, S', ok, en, f, q⟩
theorem uNil : PA Y [] (aU Y.K T mg P cls dx (fun _ => dNil)) := by
  refine paImp pa_nil fun σ H Q ⟨_, Z, G, S, m, e, d, S', ok, en, r, f, q⟩ => ?_
  cases f
  exact q [] H m Ext.refl ok .nil
def uCons (f : EE) (fs : EA) : EA := fun e G S => (f e G S).bind fun p => (fs e G p.2).bind fun q => some (p.1 :: q.1, q.2)
theorem uCo (h : PE Y e (eU Y.K T mg P cls dx f)) (hr : PA Y es (aU Y.K T mg P cls dx fs)) (hs : starEach (e :: es) Y.env = (false, eval e Y.env) :: starEach es Y.env) : PA Y (e :: es) (aU Y.K T mg P cls dx (uCons f fs)) := by
  refine paImp (pa_cons h hr hs) fun σ H Q ⟨hP, Z, G, S, m, ex, d, S', ok, en, r, f, q⟩ => ?_
  unfold uCons at f
  obtain ⟨⟨x, S1⟩, e1, f⟩ := Option.bind_eq_some_iff.mp f
  obtain ⟨⟨y, S2⟩, e2, f⟩ := Option.bind_eq_some_iff.mp f
  cases f
  refine ⟨hP, Z, G, S, m, ex, x, S1, ok, en, r, e1, fun v H1 m1 x1 o1 r1 => ?_⟩
  refine ⟨hP, Z, G, S1, m1, ex, y, S2, o1, en.mono x1 ok, r.mono x1 ok, e2, fun u H2 m2 x2 o2 r2 => ?_⟩
  exact q _ H2 m2 (x1.trans x2) o2 (.cons (r1.mono x2 o1) r2)
def uLst (fs : EA) : EE := fun e G S => (fs e G S).bind fun p => okLst false p.1 p.2
theorem uLi (h : PA Y es (aU Y.K T mg P cls dx fs)) : PE Y (.List es pos) (eU Y.K T mg P cls dx (uLst fs)) := by
  refine peImp (pe_lst h) fun σ H Q ⟨hP, Z, G, S, m, ex, d, S', ok, en, r, f, q⟩ => ?_
  unfold uLst at f
  obtain ⟨⟨x, S1⟩, e1, f⟩ := Option.bind_eq_some_iff.mp f
  refine ⟨hP, Z, G, S, m, ex, x, S1, ok, en, r, e1, fun v H1 m1 x1 o1 r1 => ⟨?_, fun p hp => ?_⟩⟩
  · rw [r1.len]; exact lim_le (okLst_len f)
  · exact newLst (Q := Q) o1 hp r1 f fun w H3 m3 x3 o3 r3 => q w H3 m3 (x1.trans x3) o3 r3
def uRet (f : EE) : ES := fun e G S => (f e G S).bind fun p => some (.rt p.1, G, p.2)
theorem uRe (h : PE Y e (eU Y.K T mg P cls dx f)) : PSs Y [.Return (some e) pos] (sU Y.K T mg P cls dx (uRet f)) := by
  refine pssImp (pss_one (ps_ret h)) fun D σ H ⟨hP, Z, G, S, m, ex, fl, G', S', ok, en, r, f, q⟩ => ?_
  unfold uRet at f
  obtain ⟨⟨x, S1⟩, e1, f⟩ := Option.bind_eq_some_iff.mp f
  cases f
  exact ⟨hP, Z, G, S, m, ex, x, S1, ok, en, r, e1, fun v H1 m1 x1 o1 r1 => q H1 m1 x1 o1 v r1⟩
end
/-- the suite's own name stands for its exception -/
def atS (i : Nat) (a : Addr) : L2.St → Prop := fun σ => σ[i]? = some (some (.ref a))
theorem lookup_reps {K : PySem.W.Frag × List Addr} {H : Hp} {m : List Addr} {n : Str} {d : D} : ∀ {kvs : List (Str × V)} {fs : List (Str × D)}, kvs.map (·.1) = fs.map (·.1) → Reps K H m (kvs.map (·.2)) (fs.map (·.2)) → fs.lookup n = some d → ∃ v, kvs.lookup n = some v ∧ Rep K H m v d
  | [], [], _, _, h => by cases h
  | [], _ :: _, h, _, _ => by cases h
  | _ :: _, [], h, _, _ => by cases h
  | (k, v) :: kvs, (k', d') :: fs, h, r, e => by
    cases r with
    | cons r1 rs =>
      have hk : k = k' := (List.cons.inj h).1
      have ht := (List.cons.inj h).2
      subst hk
      by_cases hn : n = k
      · subst hn
        simp only [List.lookup, beq_self_eq_true] at e ⊢
        cases e
        exact ⟨v, rfl, r1⟩
      · have hb : (n == k) = false := by simpa using hn
        simp only [List.lookup, hb] at e ⊢
        exact lookup_reps ht rs e
section
variable {X : Cx} {T : List Addr} {a C : Addr} {oe : Obj} {cls : Value} {dx : Option Addr} {pn : List (Addr × Obj)} {i : Nat} {x n : Str} {pos p p1 p2 : Pos}
def uFld (cn n : Str) : EE := fun e _ S => if e.cls = cn then (e.fs.lookup n).map (·, S) else none
/-- slip.n -/
theorem uFl {cn : Str} (hcn : X.mg cn = some (.ref C)) (t : XfC X.K C) (hno : PySem.W.findIn X.K (.ref C) n = some none) (hz : Zc cls dx oe) (hf : ∃ vs, oe.data = .fields vs) (hN : X.N[i]? = some x) (hv : Vis X.env.scope x) (hd : (x == ("__debug__" : Str)) = false) (hcd : (x == ("__classdict__" : Str)) = false)
    (hb : attributeBase (.Name x p) n X.env (eval (.Name x p) X.env) = eval (.Name x p) X.env) : PE (X.suite a ((a, oe) :: pn)) (.Attribute (.Name x p) n pos) (eU X.K T X.mg (atS i a) cls dx (uFld cn n)) := by
  have h1 : PE (X.suite a ((a, oe) :: pn)) (.Name x p) (tVar i) := pe_var hN hv hd hcd
  refine peImp (pe_xf t hno hz hf h1 hb) fun σ H Q ⟨hP, Z, G, S, m, ex, d, S', ok, en, r, f, q⟩ => ?_
  unfold uFld at f
  split at f
  case isFalse => cases f
  rename_i hc
  obtain ⟨d', e1, f⟩ := Option.map_eq_some_iff.mp f
  cases f
  obtain ⟨C', c1, c2, ⟨hn, _⟩ | ⟨dd, kvs, c3, c4, c5, c6⟩⟩ := r
  · rw [hn] at e1; cases e1
  rw [hc, hcn] at c2
  cases c2
  obtain ⟨v, l1, l2⟩ := lookup_reps c5 c6 e1
  exact ⟨.ref a, hP, rfl, c1, dd, kvs, v, c3, c4, l1, q v H m Ext.refl ok l2⟩
/-- isinstance(slip, D), slip of the class at C -/
def rIsX (K : PySem.W.Frag) (C a : Addr) (dx : Option Addr) : List V → Hp → VK → Prop := fun xs H Q => ∃ (c : V) (cv : Value) (b : Bool), xs = [.ref a, c] ∧ (∀ u, RelV c u → u = cv) ∧ PySem.W.kitOne K (.ref C) cv = some b ∧ (dx = none ∨ ∃ dd fs, dx = some dd ∧ H dd = some (.xd fs)) ∧ Q (.bl b) H
theorem call_isX (t : ExcC X.K C) (hz : Zc (.ref C) dx oe) (hf : ∃ vs, oe.data = .fields vs) : CallR (X.suite a ((a, oe) :: pn)) (.builtin "isinstance") (rIsX X.K C a dx) := by
  intro pins s σ H xs us Q I r h
  obtain ⟨c, cv, b, rfl, hcv, e, hdx, q⟩ := h
  cases r with
  | cons rx rr =>
    cases rr with
    | cons rt rr =>
      cases rr
      cases rx
      have ec := hcv _ rt
      subst ec
      have hcl : (PySem.W.clsIn X.K C).isSome = true := by
        obtain ⟨cd, hc, _⟩ := PySem.W.any_some t.hd
        rw [hc] <;> rfl
      obtain ⟨hget, _⟩ := I.pin (a, oe) (List.mem_append.mpr (.inl List.mem_cons_self))
      obtain ⟨vs, hv⟩ := hf
      have J : ∃ od, PySem.W.InstAt s.heap a oe C od := by
        rcases hdx with hdx | ⟨dd, fs, hdx, hdd⟩
        · refine ⟨none, hget, hz.1, by unfold PySem.W.notCls; rw [hv] <;> rfl, ?_⟩
          rw [hz.2, hdx]; trivial
        · have hx : ObjOk X.prog X.w H s.heap dd (.xd fs) := I.hok dd _ hdd
          obtain ⟨mA, hns, _⟩ := hx
          obtain ⟨od, ho, _⟩ := lookIn_ns hns
          refine ⟨some od, hget, hz.1, by unfold PySem.W.notCls; rw [hv] <;> rfl, ?_⟩
          rw [hz.2, hdx]; exact ho
      obtain ⟨od, J⟩ := J
      exact PySem.W.kia_one (PySem.W.kitx_exc (ox := oe) (od := od) hcl t.hg t.hk t.hs t.ha t.hn t.ht t.hm) I.kIn J e (fun z => nomatch z) fun tk => ⟨.bl b, H, I.kept (t' := tk) fun _ _ z => z, rfl, q⟩
def uIsi (cn : Str) (b : Bool) : EE := fun e _ S => if e.cls = cn then some (.bl b, S) else none
theorem uIs {cn dn : Str} {B : Addr} {b : Bool} (hcn : X.mg cn = some (.ref C)) (t : ExcC X.K C) (hz : Zc cls dx oe) (hf : ∃ vs, oe.data = .fields vs) (hdn : X.mg dn = some (.ref B)) (hk : PySem.W.kitOne X.K (.ref C) (.ref B) = some b)
    (hg : Gl X "isinstance") (hm : X.mg "isinstance" = none) (hgd : Gl X dn) (hdd : (dn == ("__debug__" : Str)) = false) (hN : X.N[i]? = some x) (hv : Vis X.env.scope x) (hd : (x == ("__debug__" : Str)) = false) (hcd : (x == ("__classdict__" : Str)) = false)
    (hs1 : starEach [.Name x p1, .Name dn p2] X.env = (false, eval (.Name x p1) X.env) :: starEach [.Name dn p2] X.env) (hs2 : starEach [.Name dn p2] X.env = (false, eval (.Name dn p2) X.env) :: starEach [] X.env) (hpl : (backTo pos (starEach [.Name dn p2] X.env)).any (·.1) = false) :
    PE (X.suite a ((a, oe) :: pn)) (.Call (.Name "isinstance" p) [.Name x p1, .Name dn p2] [] pos) (eU X.K T X.mg (atS i a) cls dx (uIsi cn b)) := by
  by_cases hC : cls = .ref C
  · subst hC
    have h1 : PE (X.suite a ((a, oe) :: pn)) (.Name x p1) (tVar i) := pe_var hN hv hd hcd
    have h2 : PE (X.suite a ((a, oe) :: pn)) (.Name dn p2) (tC (.ref B)) := pe_glob (X := X.suite a ((a, oe) :: pn)) hgd hdn rfl hdd
    have ha : PA (X.suite a ((a, oe) :: pn)) [.Name x p1, .Name dn p2] (tCons (tVar i) (tCons (tC (.ref B)) tNil)) := pa_cons h1 (pa_cons h2 pa_nil hs2) hs1
    refine peImp (pe_callB (X := X.suite a ((a, oe) :: pn)) (call_isX t hz hf) hg hm (by decide +kernel) ha (by decide) (by decide) hs1 hpl) fun σ H Q ⟨hP, Z, G, S, m, ex, d, S', ok, en, r, f, q⟩ => ?_
    unfold uIsi at f
    split at f
    case isFalse => cases f
    cases f
    refine ⟨.ref a, hP, .ref B, .ref B, b, rfl, fun u ru => ru, hk, ?_, q _ H m Ext.refl ok (.bl _)⟩
    obtain ⟨C', c1, c2, ⟨_, hn⟩ | ⟨dd, kvs, c3, c4, c5, c6⟩⟩ := r
    · exact .inl hn
    · exact .inr ⟨dd, kvs, c3, c4⟩
  · -- of another class: nothing is told
    have h1 : PE (X.suite a ((a, oe) :: pn)) (.Name x p1) (tVar i) := pe_var hN hv hd hcd
    refine ⟨fun pins s σ H Q I ⟨hP, Z, G, S, m, ex, d, S', ok, en, r, f, q⟩ => ?_⟩
    unfold uIsi at f
    split at f
    case isFalse => cases f
    rename_i hc
    obtain ⟨C', c1, c2, _⟩ := r
    rw [hc, hcn] at c2
    cases c2
    exact absurd c1 hC
end
/-- i: the slot of the clause's name, if it has one -/
def dTry (i : Option Nat) (mt : Str → Option Bool) (b : DS) (xb : SXF) (su : ES) : DS := fun G S => match xb G S with
  | some r => match mt r.1.cls with
    | some true => match i with
      | some i => if i < r.2.1.length then (su r.1 (r.2.1.set i none) r.2.2).map fun p => (p.1, p.2.1.set i none, p.2.2) else none
      | none => su r.1 r.2.1 r.2.2
    | _ => none
  | none => b G S
section
variable {X : Cx} {T : List Addr} {x n : Str} {c : Value} {i : Nat} {body suite : List Stmt} {b₀ : Stmt} {np pos pos' : Pos} {b : DS} {xb : SXF} {su : ES} {mt : Str → Option Bool}
theorem rTryAs (hs : X.stack = X.env :: X.outer) (hf : X.env.frame = some X.env.locals) (hN : X.N.Nodup) (hi : X.N[i]? = some n) (hln : X.env.kindOf n = some .local) (hc : Names X x c)
    (hmt : ∀ z v C, mt z = some v → X.mg z = some (.ref C) → PySem.W.exmOne X.K (.ref C) c = some v)
    (hb : ∀ (pn : List (Addr × Obj)) (xe : Value → Shared → Prop), PassesOwn (model X.prog X.w) X.A X.env xe → PSs (X.tr pn xe) body (sD X.K T b))
    (hx : ∀ (W : WX) (pn : List (Addr × Obj)) (xe : Value → Shared → Prop), Takes (X.tr pn xe) W → PassesOwn (model X.prog X.w) X.A X.env xe → PSs (X.tr pn xe) body (sX X.K T X.mg W xb))
    (hsu : ∀ (a : Addr) (oe : Obj) (cls : Value) (d : Option Addr) (pn : List (Addr × Obj)), Zc cls d oe → (∃ vs, oe.data = .fields vs) → PSs (X.suite a ((a, oe) :: pn)) (b₀ :: suite) (sU X.K T X.mg (atS i a) cls d su)) :
    PS X (.Try body [.ExceptHandler (some (.Name x np)) (some n) (b₀ :: suite) pos'] [] [] pos) (sD X.K T (dTry (some i) mt b xb su)) := by
  refine psImp (ps_try_as (tb := fun W D σ H => sD X.K T b D σ H ∨ sX X.K T X.mg W xb D σ H) (ts := fun a cls d => sU X.K T X.mg (atS i a) cls d su) (Wout := fun _ _ _ _ => False) hs hf hN hi hln hc takes0 (fun W pn xe tk po => pssOr (hb pn xe po) (hx W pn xe tk po)) hsu) fun D σ H ⟨Z, G, S, m, fl, G', S', ok, en, f, q⟩ => ?_
  unfold dTry at f
  split at f
  · rename_i r er
    obtain ⟨ex, G1, S1⟩ := r
    dsimp only at f
    split at f
    case h_2 => cases f
    rename_i hm
    split at f
    case isFalse => cases f
    rename_i hl
    obtain ⟨⟨fl2, G2, S2⟩, e2, f⟩ := Option.map_eq_some_iff.mp f
    cases f
    refine .inr (sX.go ok en er fun σ1 cls dx H1 m1 x1 o1 en1 r1 => ?_)
    obtain ⟨C, c1, c2, c3⟩ := id r1
    refine ⟨true, by rw [c1]; exact hmt _ _ C hm c2, fun _ a ha => ?_, fun z => nomatch z⟩
    refine ⟨?_, Z, _, S1, m1, ex, fl2, G2, S2, o1, en1.any i _, r1, e2, fun H2 m2 x2 o2 => ?_⟩
    · show (σ1.set i _)[i]? = _
      rw [List.getElem?_set_self (by rw [en1.len]; exact hl)]
    · have z := q H2 m2 (x1.trans x2) o2
      cases fl2 with
      | nx => exact fun σ2 en2 => z _ (en2.any i none)
      | rt d => exact z
      | bk => exact fun σ2 en2 => z _ (en2.any i none)
      | ct => exact fun σ2 en2 => z _ (en2.any i none)
  · exact .inl ⟨Z, G, S, m, fl, G', S', ok, en, f, q⟩
end
end Vw
set_option maxRecDepth 100000
set_option maxHeartbeats 4000000
namespace Vw
open PySem PySem.Spec PyProof.Rows L2
section
variable {X : Cx} {B : Addr} {x : Str} {ta : TA} {e : Expr} {es : List Expr} {p1 p2 pos : Pos}
theorem pe_binit {pl : Sem Bool} (hg : Gl X x) (hm : X.mg x = some (.ref B)) (r : ClX.CRead X.K B (.type "type")) (vB : PySem.W.findCls X.K (.ref B) (.type "type") "__init__" = some (.val (.builtin "ValueError.__init__"))) (ha : PA X (e :: es) ta) (hdb : (x == ("__debug__" : Str)) = false)
    (hc : eval (.Call (.Attribute (.Name x p1) "__init__" p2) (e :: es) [] pos) X.env = (do
      let o ← eval (.Name x p1) X.env
      standAt p2.atName
      let (fv, fst) ← holding [o] (getMethod o "__init__" pl)
      callWith pos fv fst (backTo pos (starEach (e :: es) X.env)) (backToKw pos (keywordEach [] X.env))) := by rfl)
    (he : starEach (e :: es) X.env = (false, eval e X.env) :: starEach es X.env := by rfl) (hpl : (backTo pos (starEach es X.env)).any (·.1) = false := by rfl) :
    PE X (.Call (.Attribute (.Name x p1) "__init__" p2) (e :: es) [] pos) (tVeI X.K ta) := by
  refine ⟨fun pins s σ H Q I h => PySem.W.methodCall_KW (ld_glob I hg hm ?_ hdb) hc⟩
  refine PySem.W.method_cls I.kIn r.ga (PySem.W.cls_value I.kIn r.rd vB (by rfl) ?_)
  show wpAny _ _ (callWith pos (Value.builtin "ValueError.__init__") [] (backTo pos (starEach (e :: es) X.env)) []) _ _ _
  refine PyProof.Rows.callWith_method1 (thn (ha.run pos pins _ σ H _ (I.tok _) h) fun us s1 hh => ?_) he hpl
  obtain ⟨vs, H1, I1, r1, a, C, ws, ev, hl, t, ea, q⟩ := hh
  subst ev
  cases r1 with
  | @cons _ u0 _ ur ra rs =>
    obtain rfl : u0 = Value.ref a := ra
    refine oinit_ok t I1 ea ?_ fun s' J => ⟨.non, H1, J, rfl, q⟩
    have := Paired.length rs
    rw [sizeLine_eq]; omega
end
def txtOk (v : V) : Prop := (∃ i : Int, v = .int i ∧ i.natAbs.log2 < 1920) ∨ ∃ z : Str, v = .str z ∧ (reprText z).length ≤ 100000
def spI1 (C : Addr) (f : Str) : Sp := fun vs H Q _ => ∃ (a : Addr) (y : V), vs = [.ref a, y] ∧ txtOk y ∧ H a = some (exo a C none) ∧
  ∀ dx, H dx = none → dx ≠ a → Q .non (upd (upd H dx (exd dx [(f, y)])) a (exo a C (some dx)))
/-- what the written part tells of such a class; B: the class under which it stands -/
structure ExT (K : PySem.W.Frag) (mg : Str → Option Value) (x bn : Str) (C B fI : Addr) : Prop where
  oex : OexC K C
  gC : mg x = some (.ref C)
  gB : mg bn = some (.ref B)
  rB : ClX.CRead K B (.type "type")
  vB : PySem.W.findCls K (.ref B) (.type "type") "__init__" = some (.val (.builtin "ValueError.__init__"))
  iC : PySem.W.findIn K (.ref C) "__init__" = some (some (.ref fI))
  tI : PySem.W.typeIn K (.ref fI) = some (.type "function")
  db : (bn == ("__debug__" : Str)) = false
def clsInit : Stmt → Stmt
  | .ClassDef (body := b) .. => (b.find? fun s => match s with | .FunctionDef .. => true | _ => false).getD (.Pass ⟨0, 0, 0, 0⟩)
  | s => s
/-- the text of the error, made of the parts' texts -/
def tTxt (K : PySem.W.Frag) (t : TE) : Prop := ∀ (σ : L2.St) (H : Hp) (Q : VK) (y : V), σ[1]? = some (some y) → txtOk y → (∀ z, Q (.str z) H) → t σ H Q
section
variable {σ : L2.St} {H : Hp} {Q : Str → Hp → Prop} {ts : List TE} {acc m : Str} {n : Nat} {y : V}
theorem js_zero : Str.empty.length ≤ 0 := Nat.le_refl 0
theorem js_lit (hacc : acc.length ≤ n) (hn : n + 200 ≤ sizeLine) (hl : m.length ≤ 200) (q : ∀ acc', acc'.length ≤ n + 200 → tJs ts acc' σ H Q) : tJs (tC (.str m) :: ts) acc σ H Q := by
  have e : (acc ++ m).length ≤ n + 200 := by rw [Str.length_append]; omega
  exact ⟨m, rfl, Nat.le_trans e hn, q _ e⟩
theorem js_fmt (hy : σ[1]? = some (some y)) (ho : txtOk y) (hacc : acc.length ≤ n) (hn : n + 100000 ≤ sizeLine) (q : ∀ acc', acc'.length ≤ n + 100000 → tJs ts acc' σ H Q) : tJs (tFmtR (tVar 1) :: ts) acc σ H Q := by
  have hs : 100000 ≤ sizeLine := by decide
  refine ⟨y, hy, ?_⟩
  rcases ho with ⟨i, rfl, hi⟩ | ⟨z, rfl, hz⟩
  · have hl := int_text_len_1921 hi
    have e : (acc ++ Str.ofString (toString i)).length ≤ n + 100000 := by rw [Str.length_append]; omega
    exact .inr ⟨i, rfl, hi, _, rfl, Nat.le_trans e hn, q _ e⟩
  · have e : (acc ++ reprText z).length ≤ n + 100000 := by rw [Str.length_append]; omega
    exact .inl ⟨z, rfl, Nat.le_trans hz hs, _, rfl, Nat.le_trans e hn, q _ e⟩
end
section
variable {P : Program} {w : World} {K : PySem.W.Frag} {mg : Str → Option Value} {base : Heap} {x bn qual : Str} {C B fI : Addr} {fd : FuncData} {st : Stmt}
/-- def __init__(self, f): Base.__init__(self, f".."); self.f = f -/
theorem init1_of {N : List Str} {f : Str} {tt : TE} (t : ExT K mg x bn C B fI) (hno : PySem.W.findIn K (.ref C) f = some none) (ht : tTxt K tt) (F : Fun K "__init__" qual st fI fd) (S : FnScope N ["self", f] (defScope st))
    (body : ∀ (cdv : Value) (A : Around) (outer : List Env) (s : Shared) (H : Hp) (E : XK), PSs (cxOf (L2.CX P w) P w K mg base N qual (defScope st) fI cdv A outer s H E) (defBody st) (tSeq (tDrop (tVeI K (tCons (tVar 0) (tCons tt tNil)))) (tOst K f (tVar 0) (tVar 1)))) : FnOk P w K mg base (L2.CX P w) 1 fI fd ["self", f] (spI1 C f) := by
  refine F.okX S (fun vs H Q E h => ?_) (fun cdv A outer s H vs Q E hr h => ⟨_, body cdv A outer s H E, ?_⟩)
  · obtain ⟨a, y, rfl, _⟩ := h; rfl
  · obtain ⟨a, y, rfl, hy, ha, q⟩ := h
    refine ⟨_, rfl, ht _ _ _ y rfl hy fun z => ⟨a, C, [.str z], rfl, (by show 1 ≤ 1000; decide), t.oex, ha, ?_⟩⟩
    exact ⟨y, rfl, _, rfl, a, C, rfl, t.oex, hno, .inl ⟨ha, q⟩⟩
end
section
variable {X : Cx}
variable {T : List Addr} {W : WX}
def txtD : D → Bool
  | .int i => decide (i.natAbs.log2 < 1920)
  | .str z => decide ((reprText z).length ≤ 100000)
  | _ => false
theorem txtD_ok {K : PySem.W.Frag × List Addr} {H : Hp} {m : List Addr} {v : V} {d : D} (r : Rep K H m v d) (h : txtD d = true) : txtOk v := by
  cases r with
  | int i => exact .inl ⟨i, rfl, of_decide_eq_true h⟩
  | str z => exact .inr ⟨z, rfl, of_decide_eq_true h⟩
  | _ => cases h
def sxRaise1 (x f : Str) (fe : DE) : SXF := fun G S => (fe G S).bind fun p => if txtD p.1 = true then some (⟨x, [(f, p.1)]⟩, G, p.2) else none
theorem xRaise1 {x bn f : Str} {C B fI : Addr} {fd : FuncData} {k : Nat} {e : Expr} {fe : DE} {p pos pos2 : Pos} (hc : X.calm = true) (tk : Takes X W) (t : ExT X.K X.mg x bn C B fI) (F1 : FnOk X.prog X.w X.K X.mg X.base (L2.CX X.prog X.w) k fI fd ["self", f] (spI1 C f)) (hr : Room (k + 1) X.A) (hb : Binds X.K fd ["self", f] []) (hg : Gl X x) (hdb : (x == ("__debug__" : Str)) = false)
    (he : PE X e (tD X.K T fe)) (hst : starEach [e] X.env = (false, eval e X.env) :: starEach [] X.env) (hpl : (backTo pos (starEach [] X.env)).any (·.1) = false) :
    PS X (.Raise (some (.Call (.Name x p) [e] [] pos)) none pos2) (sX X.K T X.mg W (sxRaise1 x f fe)) := by
  have ha : PA X [e] (tA X.K T (dCons fe dNil)) := rCons he rNil hst
  refine psImp (ps_raise hc tk (pmk_oex (ds := []) (dvs := []) t.oex t.iC t.tI F1 hr hb .nil passL hg t.gC ha hdb hst hpl)) fun D σ H ⟨Z, G, S, m, ex, G', S', ok, en, g, q⟩ => ?_
  unfold sxRaise1 at g
  obtain ⟨⟨y, S1⟩, e1, g⟩ := Option.bind_eq_some_iff.mp g
  split at g
  case isFalse => cases g
  rename_i hy
  cases g
  refine tA.go (ds := [y]) (S1 := S1) ok en (by unfold dCons; rw [e1]; rfl) fun vs H1 m1 x1 o1 en1 r1 => ?_
  obtain ⟨v, rfl, rv⟩ := one_inv r1
  refine ⟨(by show 1 ≤ 1000; decide), fun a na => ⟨a, v, rfl, txtD_ok rv hy, upd_same, fun dx hdx hne => ⟨rfl, dx, [(f, v)], upd_same, ?_, ?_, ?_⟩⟩⟩
  · rw [upd_ne hne, upd_same]
  · rwa [upd_ne hne] at hdx
  · have hd1 : H1 dx = none := by rwa [upd_ne hne] at hdx
    have eh : upd (del (upd (upd (upd H1 a (exo a C none)) dx (exd dx [(f, v)])) a (exo a C (some dx))) a) dx (.xd [(f, v)]) = upd H1 dx (.xd [(f, v)]) := by
      funext b
      by_cases h1 : b = dx
      · rw [h1, upd_same, upd_same]
      · rw [upd_ne h1, upd_ne h1]
        by_cases h2 : b = a
        · rw [h2, del_same, na]
        · rw [del_ne h2, upd_ne h2, upd_ne h1, upd_ne h2]
    rw [eh]
    have xl := Ext.laid (o := .xd [(f, v)]) o1 hd1
    refine q σ _ _ _ m1 (x1.trans xl) (o1.laid hd1) (en1.mono xl o1) ⟨C, rfl, t.gC, .inr ⟨dx, [(f, v)], rfl, upd_same, rfl, ?_⟩⟩
    exact .one (rv.mono xl o1)
end
end Vw
set_option maxRecDepth 100000
set_option maxHeartbeats 4000000
namespace Vw
open PySem PySem.Spec PyProof.Rows L2 GenW
def mtOf (cs : List Str) : Str → Option Bool := fun z => if z ∈ cs then some true else none
theorem mtOf_ok {K : PySem.W.Frag} {mg : Str → Option Value} {c : Value} {cs : List Str} (h : ∀ z ∈ cs, ∀ C, mg z = some (.ref C) → PySem.W.exmOne K (.ref C) c = some true) : ∀ z v C, mtOf cs z = some v → mg z = some (.ref C) → PySem.W.exmOne K (.ref C) c = some v := by
  intro z v C hz hC
  unfold mtOf at hz
  split at hz
  · rename_i hm
    cases hz
    exact h z hm C hC
  · cases hz
theorem mt_nil {K : PySem.W.Frag} {mg : Str → Option Value} {c : Value} : ∀ z ∈ ([] : List Str), ∀ C, mg z = some (.ref C) → PySem.W.exmOne K (.ref C) c = some true := fun _ h => by cases h
theorem mt_cons {K : PySem.W.Frag} {mg : Str → Option Value} {c : Value} {x : Str} {cs : List Str} {C : Addr} (g : mg x = some (.ref C)) (e : PySem.W.exmOne K (.ref C) c = some true) (h : ∀ z ∈ cs, ∀ C, mg z = some (.ref C) → PySem.W.exmOne K (.ref C) c = some true) :
    ∀ z ∈ (x :: cs), ∀ C, mg z = some (.ref C) → PySem.W.exmOne K (.ref C) c = some true := by
  intro z hz C' hC
  rcases List.mem_cons.mp hz with rfl | hz
  · cases g.symm.trans hC
    exact e
  · exact h z hz C' hC
end Vw
set_option maxRecDepth 100000
set_option maxHeartbeats 4000000
namespace Vw
open PySem PySem.Spec PyProof.Rows L2
def sgD (x : Str) : List D := x.cps.toList.map fun c => D.str ⟨#[c]⟩
theorem sgD_len {x : Str} : (sgD x).length = x.cps.size := by unfold sgD; rw [List.length_map]; rfl
theorem srcX_ok {K : PySem.W.Frag × List Addr} {T : List Addr} {H : Hp} {m : List Addr} (x : Str) : ItOk K T H m (Its x) (fixS (sgD x)) := by
  intro E i H' m' S' hE x' o'
  unfold fixS
  cases e : (sgD x)[i]? with
  | none =>
    have h := List.getElem?_eq_none_iff.mp e
    rw [sgD_len] at h
    exact h
  | some d =>
    have hi := (List.getElem?_eq_some_iff.mp e).1
    rw [sgD_len] at hi
    refine ⟨hi, fun y H2 hy => ?_⟩
    obtain ⟨rfl, c, hc, rfl⟩ := hy
    unfold sgD at e
    rw [List.getElem?_map] at e
    obtain ⟨c', e1, rfl⟩ := Option.map_eq_some_iff.mp e
    have : x.cps.toList[i]? = some c := by rw [Array.getElem?_toList]; exact hc
    rw [this] at e1
    cases e1
    exact ⟨m', Ext.refl, o', .str _⟩
def dTxtI (f : DE) : DI := fun G S => (f G S).bind fun p => match p.1 with
  | .str x => some (fixS (sgD x), x.cps.size + 1, p.2)
  | _ => none
def opIntT : OpC := fun cs S => match cs with
  | [.str a] => if a.length ≤ 640 then (PySem.intText? a).map fun n => (D.int n, S) else none
  | _ => none
theorem rule_intT {K : PySem.W.Frag} {T : List Addr} : RuleC K T (fun xs H Q => ∃ a n, xs = [.str a] ∧ PySem.intText? a = some n ∧ a.length ≤ 640 ∧ Q (.int n) H) opIntT := by
  intro Z H m S xs cs z S' Q ok r f q
  unfold opIntT at f
  split at f
  · obtain ⟨x, rfl, rx⟩ := one_inv r
    split at f
    · rename_i hl
      obtain ⟨n, e, f⟩ := Option.map_eq_some_iff.mp f
      cases f
      cases rx
      exact ⟨_, n, rfl, e, hl, q _ H m Ext.refl ok (.int _)⟩
    · cases f
  · cases f
section
variable {X : Cx} {T : List Addr} {e tg : Expr} {es : List Expr} {p pos : Pos} {f : DE} {fs : DA}
theorem iTxt (h : PE X e (tD X.K T f)) : PI X tg e (iD X.K T (dTxtI f)) := by
  refine piImp (pi_str h) fun σ H R ⟨Z, G, S, m, src, n, S', ok, en, f, q⟩ => ?_
  unfold dTxtI at f
  obtain ⟨⟨d, S1⟩, e1, f⟩ := Option.bind_eq_some_iff.mp f
  dsimp only at f
  split at f
  · rename_i x
    cases f
    refine tD.go ok en e1 fun v H1 m1 x1 o1 en1 r1 => ?_
    cases r1
    exact ⟨x, rfl, q _ H1 m1 x1 o1 (srcX_ok x)⟩
  · cases f
theorem eIntT (m : X.mg "int" = none) (g : Gl X "int") (ha : PA X (e :: es) (tA X.K T fs)) (he : starEach (e :: es) X.env = (false, eval e X.env) :: starEach es X.env := by rfl) (hpl : (backTo pos (starEach es X.env)).any (·.1) = false := by rfl) : PE X (.Call (.Name "int" p) (e :: es) [] pos) (tD X.K T (dCall opIntT fs)) := rCall (pe_callTy call_int_str g m (by decide +kernel) ha (by decide) (by decide) he hpl) rule_intT
end
end Vw
set_option maxRecDepth 100000
set_option maxHeartbeats 4000000
namespace Vw
open PySem PySem.Spec PyProof.Rows L2
end Vw
set_option maxRecDepth 100000
set_option maxHeartbeats 4000000
namespace Vw
open PySem PySem.Spec PyProof.Rows L2
def opStrI : OpC := fun cs S => match cs with
  | [.int i] => if i.natAbs.log2 < 1920 then some (.str (toString i), S) else none
  | _ => none
theorem rule_strI {K : PySem.W.Frag} {T : List Addr} : RuleC K T (fun xs H Q => ∃ i, xs = [.int i] ∧ i.natAbs.log2 < 1920 ∧ Q (.str (toString i)) H) opStrI := by
  intro Z H m S xs cs z S' Q ok r f q
  unfold opStrI at f
  split at f
  · obtain ⟨x, rfl, rx⟩ := one_inv r
    split at f
    · rename_i hl
      cases f
      cases rx
      exact ⟨_, rfl, hl, q _ H m Ext.refl ok (.str _)⟩
    · cases f
  · cases f
def opMulS : D → D → Sto → Option (D × Sto)
  | .str x, .int n, S => if n < 1000000 ∧ -1000000 < n ∧ x.length * n.toNat ≤ 1000000 then some (.str (Txt.mul x n), S) else none
  | _, _, _ => none
def rMulS : R2 := fun x y H Q => ∃ a n, x = .str a ∧ y = .int n ∧ MulOk a n ∧ Q (.str (Txt.mul a n)) H
theorem opr_mulS {X : Cx} : OpR X (binaryOp .Mult) rMulS := by
  intro pins s σ H x y v u Q I rx ry h
  obtain ⟨a, n, rfl, rfl, ok, q⟩ := h
  obtain ⟨t, rfl⟩ := rx
  obtain ⟨t', rfl⟩ := ry
  exact SB.mul ok fun t2 k => ⟨.str _, H, I.tok k, ⟨t2, rfl⟩, q⟩
theorem mulOk_of {x : Str} {n : Int} (h1 : n < 1000000) (h2 : -1000000 < n) (h3 : x.length * n.toNat ≤ 1000000) : MulOk x n := by
  refine ⟨?_, fun hn hb => ?_, fun hn hb => ?_⟩
  · rw [decide_eq_false (by omega), decide_eq_false (by omega)]; rfl
  · intro hq
    have hn' : 0 < n := by omega
    have e : n = ((n.toNat : Nat) : Int) := by omega
    have hx : (x.length : Int) * n ≤ 1000000 := by
      rw [e, ← Int.natCast_mul]
      exact Int.ofNat_le.mpr h3
    have h4 : ((2 ^ 63 - 1) / n + 1) * n ≤ (x.length : Int) * n := Int.mul_le_mul_of_nonneg_right (by omega) (by omega)
    have h5 := Int.lt_ediv_add_one_mul_self (2 ^ 63 - 1) hn'
    omega
  · unfold Builtin.Str.tooLong
    exact decide_eq_false (by rw [sizeLine_eq]; omega)
theorem rule_mulS {K : PySem.W.Frag} {T : List Addr} : Rule2 K T rMulS opMulS := by
  intro Z H m S xv yv x y z S' Q ok rx ry f q
  unfold opMulS at f
  split at f
  · split at f
    · rename_i h
      cases f
      cases rx
      cases ry
      exact ⟨_, _, rfl, rfl, mulOk_of h.1 h.2.1 h.2.2, q _ H m Ext.refl ok (.str _)⟩
    · cases f
  · cases f
def dSlS (fe : DE) (fl fh : DO) : DE := fun G S => (fe G S).bind fun p => (fl G p.2).bind fun l => (fh G l.2).bind fun h => match p.1 with
  | .str z => if z.length ≤ 1000000 then some (.str (L2.cutS z l.1 h.1), h.2) else none
  | _ => none
def dJoin (fo fa : DE) : DE := fun G S => (fo G S).bind fun p => match p.1 with
  | .str a => (fa G p.2).bind fun q => (seqD q.2 q.1).bind fun ds => (strsD ds).bind fun ys => if (ys.map (·.length)).sum + ys.length * a.length ≤ 1000000 then some (.str (Txt.join a ys), q.2) else none
  | _ => none
section
variable {X : Cx} {T : List Addr} {e o tg : Expr} {es : List Expr} {p pos apos : Pos} {fo fe : DE} {fs : DA} {k : Nat}
theorem eStrI (m : X.mg "str" = none) (g : Gl X "str") (ha : PA X (e :: es) (tA X.K T fs)) (he : starEach (e :: es) X.env = (false, eval e X.env) :: starEach es X.env := by rfl) (hpl : (backTo pos (starEach es X.env)).any (·.1) = false := by rfl) : PE X (.Call (.Name "str" p) (e :: es) [] pos) (tD X.K T (dCall opStrI fs)) := rCall (pe_callTy call_str_int g m (by decide +kernel) ha (by decide) (by decide) he hpl) rule_strI
theorem eMulS {a b : Expr} {fa fb : DE} (ha : PE X a (tD X.K T fa)) (hb : PE X b (tD X.K T fb)) : PE X (.BinOp a .Mult b pos) (tD X.K T (dBin opMulS fa fb)) := rBin (pe_op opr_mulS ha hb) rule_mulS
theorem rSlS' {lo hi : Option Expr} {p2 : Pos} {fl fh : DO} (he : PE X e (tD X.K T fe)) (hl : PO X lo (tOD X.K T fl)) (hh : PO X hi (tOD X.K T fh)) : PE X (.Subscript e (.Slice lo hi none p2) pos) (tD X.K T (dSlS fe fl fh)) := by
  refine peImp (pe_slice L2.sl_str he hl hh) fun σ H Q ⟨Z, G, S, m, d, S', ok, en, f, q⟩ => ?_
  unfold dSlS at f
  obtain ⟨⟨d0, S1⟩, e1, f⟩ := Option.bind_eq_some_iff.mp f
  obtain ⟨⟨l, S2⟩, e2, f⟩ := Option.bind_eq_some_iff.mp f
  obtain ⟨⟨h, S3⟩, e3, f⟩ := Option.bind_eq_some_iff.mp f
  refine tD.go ok en e1 fun v H1 m1 x1 o1 en1 r1 => ?_
  refine ⟨Z, G, S1, m1, l, S2, o1, en1, e2, fun H2 m2 x2 o2 => ?_⟩
  refine ⟨Z, G, S2, m2, h, S3, o2, en1.mono x2 o1, e3, fun H3 m3 x3 o3 => ?_⟩
  have r3 := (r1.mono x2 o1).mono x3 o2
  dsimp only at f
  split at f
  · split at f
    · rename_i hz
      cases f
      cases r3
      exact ⟨_, rfl, Nat.le_trans hz (by rw [sizeLine_eq]; decide), q _ H3 m3 ((x1.trans x2).trans x3) o3 (.str _)⟩
    · cases f
  · cases f
theorem eJoin (ho : PE X o (tD X.K T fo)) (he : PE X e (tD X.K T fe)) (hs : starEach [e] X.env = [(false, eval e X.env)] := by rfl) (hbase : attributeBase o "join" X.env (eval o X.env) = eval o X.env := by rfl) (hline : (apos.endLine == pos.line) = true := by rfl) :
    PE X (.Call (.Attribute o "join" apos) [e] [] pos) (tD X.K T (dJoin fo fe)) := by
  refine peImp (pe_join ho he hs hbase hline) fun σ H Q ⟨Z, G, S, m, d, S', ok, en, f, q⟩ => ?_
  unfold dJoin at f
  obtain ⟨⟨d0, S1⟩, e1, f⟩ := Option.bind_eq_some_iff.mp f
  dsimp only at f
  split at f
  · rename_i a
    obtain ⟨⟨d1, S2⟩, e2, f⟩ := Option.bind_eq_some_iff.mp f
    obtain ⟨ds, e3, f⟩ := Option.bind_eq_some_iff.mp f
    obtain ⟨ys, e4, f⟩ := Option.bind_eq_some_iff.mp f
    split at f
    · rename_i hz
      cases f
      refine tD.go ok en e1 fun v H1 m1 x1 o1 en1 r1 => ?_
      cases r1
      refine ⟨⟨_, rfl⟩, tD.go o1 en1 e2 fun u H2 m2 x2 o2 en2 r2 => ?_⟩
      obtain ⟨b, xs, rfl, hq, rs⟩ := seqD_ok o2 r2 e3
      have ex := strs_ok rs e4
      subst ex
      exact ⟨a, b, ys, rfl, rfl, hq, by omega, q _ H2 m2 (x1.trans x2) o2 (.str _)⟩
    · cases f
  · cases f
end
end Vw
set_option maxRecDepth 100000
set_option maxHeartbeats 4000000
namespace Vw
open PySem PySem.Spec PyProof.Rows L2
/-- the signs of x, each in a new pair -/
def ItEnX (x : Str) : It :=
  ⟨fun i _ => i < x.cps.size, fun i H v H' => ∃ T c ob, v = .ref T ∧ H T = none ∧ ob.dict = none ∧ H' = upd H T (.frz ob (.tup [.int (i : Nat), .str ⟨#[c]⟩])) ∧ x.cps[i]? = some c, fun i _ => i = x.cps.size⟩
theorem turn_enX {P : Program} {w : World} {K : PySem.W.Frag} {elts : List Expr} {kk : Nat} {tpos : Pos} (x : Str) (t : Tok) (e it : Addr) :
    Turn P w K (.Tuple elts kk tpos) (ItEnX x) [e, it] e (fun i h => (∃ old, IsEnum h e it ((i : Nat) : Int) old) ∧ h.IsStrIter it (strIterType x) x t i ∧ e ≠ it) where
  mem := by simp
  obj := fun i h st b hb => by
    obtain ⟨⟨old, he⟩, ⟨o, ho, hc, hd⟩, _⟩ := st
    rcases (show b = e ∨ b = it by simpa using hb) with rfl | rfl
    · exact ⟨_, he, fun v q => nomatch q⟩
    · exact ⟨o, ho, fun v q => by rw [hd] at q; cases q⟩
  keep := fun i h h' st k => let ⟨⟨old, he⟩, ⟨o, ho, r⟩, hne⟩ := st; ⟨⟨old, k e (by simp) _ he⟩, ⟨o, k it (by simp) o ho, r⟩, hne⟩
  item := by
    intro X hP hw hK hc i pins s σ H E I hf st hg
    subst hP hw hK
    obtain ⟨⟨old, he⟩, hit, hne⟩ := st
    have hel : e < s.heap.objs.size := Heap.lt_size he
    have hil : it < s.heap.objs.size := by obtain ⟨_, q, _⟩ := hit; exact Heap.lt_size q
    refine wpAny_pyNext_enum_itemD (Draws.text (A := X.A.in1) (I.ok.hd hc) it x t) he hit hg hne (by simpa using hne) fun v h' tk hv ho hst hT hsz hk => ?_
    obtain ⟨c, u, hcx, rfl⟩ := hv
    refine ⟨_, rfl, wpAny_letOwnedTupleGo_enum (s := { s with heap := h', toks := tk + 1 }) ho fun h'' he' sb => ?_⟩
    have hT2 : h''.get? s.heap.objs.size = some { cls := .type "tuple", data := .seq #[.int i tk, .str ⟨#[c]⟩ u] } := (sb.2 _ (Nat.ne_of_gt hel)).trans hT
    have nw : ObjOk X.prog X.w (upd H s.heap.objs.size (.frz { cls := .type "tuple", data := .seq #[.int i tk, .str ⟨#[c]⟩ u] } (.tup [.int (i : Nat), .str ⟨#[c]⟩]))) h'' s.heap.objs.size (.frz { cls := .type "tuple", data := .seq #[.int i tk, .str ⟨#[c]⟩ u] } (.tup [.int (i : Nat), .str ⟨#[c]⟩])) := ⟨hT2, by show 2 ≤ sizeLine; decide, [.int i tk, .str ⟨#[c]⟩ u], .cons ⟨_, rfl⟩ (.cons ⟨_, rfl⟩ .nil), ⟨_, hT2, rfl, _, rfl⟩⟩
    have J : Inv X pins σ (upd H s.heap.objs.size (.frz { cls := .type "tuple", data := .seq #[.int i tk, .str ⟨#[c]⟩ u] } (.tup [.int (i : Nat), .str ⟨#[c]⟩]))) { s with heap := h'', toks := tk + 1 } :=
      I.turnedNew (ch := [e, it]) (fun b ob hb q => (sb.2 b fun z => hb (by simp [z])).trans (hk b ob (fun z => hb (by simp [z])) (fun z => hb (by simp [z])) q)) hf (Nat.le_refl _) nw
    refine ⟨.ref s.heap.objs.size, _, J, rfl, ⟨_, c, _, rfl, I.hok.fresh (Nat.le_refl _), rfl, rfl, hcx⟩, ⟨⟨.str ⟨#[c]⟩ u, ?_⟩, ?_, hne⟩, fun b hb => ?_⟩
    · rw [show ((i + 1 : Nat) : Int) = (i : Int) + 1 by omega]; exact he'
    · obtain ⟨o, ho, r⟩ := hst
      exact ⟨o, (sb.2 it (Ne.symm hne)).trans ho, r⟩
    · have hb' : b < s.heap.objs.size := by
        rcases (show b = e ∨ b = it by simpa using hb) with z | z <;> rw [z]
        · exact hel
        · exact hil
      rw [upd_ne (Nat.ne_of_lt hb')]; exact (hf b hb).1
  done := by
    intro X hP hw hK hc i pins s σ H E I hf st hg
    subst hP hw hK
    obtain ⟨⟨old, he⟩, hit, hne⟩ := st
    obtain ⟨f0, f1, f2, f3, f4, f5⟩ := hf it (by simp)
    have hi : i = x.cps.size := hg
    subst hi
    exact wpAny_pyNext_enum_endD (Draws.text (A := X.A.in1) (I.ok.hd hc) it x t) he hit fun h' eb => ⟨rfl, I.turned (t' := s.toks) (fun b o hb q => eb b o hb q) f0 f1 f3 f4 f5⟩
  self := fun A i s Q E st h => let ⟨⟨_, he⟩, _⟩ := st; wpAny_pyIter_enum he h
def iEnX (ta : TA) : TI := fun σ H R => ta σ H fun vs H1 => ∃ x, vs = [.str x] ∧ R (ItEnX x) H1
theorem pi_enXt {X : Cx} {e : Expr} {ta : TA} {p pos tpos : Pos} {elts : List Expr} {kk : Nat} (hg : Gl X "enumerate") (hm : X.mg "enumerate" = none) (ha : PA X [e] ta) (hs : starEach [e] X.env = [(false, eval e X.env)]) :
    PI X (.Tuple elts kk tpos) (.Call (.Name "enumerate" p) [e] [] pos) (iEnX ta) := by
  refine ⟨fun pins s σ H R I h => ?_⟩
  refine Call_ (ld_blt I hg hm boot_enumerate (PyProof.Rows.callWith_type1 (thn (ha.run pos pins s σ H _ I h) fun us s1 ⟨vs, H1, I1, r1, x, ex, q⟩ => ?_) hs rfl))
  subst ex
  cases r1 with
  | cons r rr =>
    cases rr
    obtain ⟨t, rfl⟩ := r
    refine call_enumerate_str fun h' he hit hsz hk => wpAny_pyIter_enum he ?_
    have I2 : Inv X pins σ H1 { s1 with heap := h' } := I1.kept (t' := s1.toks) hk
    refine ⟨s1.heap.objs.size + 1, [s1.heap.objs.size + 1, s1.heap.objs.size], _, _, H1, rfl, I2, turn_enX x t (s1.heap.objs.size + 1) s1.heap.objs.size, ⟨⟨.none, he⟩, hit, Nat.succ_ne_self _⟩, fun b hb => ?_, q⟩
    have hle : s1.heap.objs.size ≤ b := by
      rcases (show b = s1.heap.objs.size + 1 ∨ b = s1.heap.objs.size by simpa using hb) with z | z
      · rw [z]; exact Nat.le_succ _
      · rw [z]; exact Nat.le_refl _
    exact I1.fpOk hle (I1.hok.fresh hle)
def enX (x : Str) : Src := fun i _ => if i ≤ x.cps.size then some ((sgD x)[i]?.map fun d => D.tup [.int (i : Nat), d]) else none
theorem srcEX_ok {K : PySem.W.Frag × List Addr} {T : List Addr} {H : Hp} {m : List Addr} (x : Str) : ItOk K T H m (ItEnX x) (enX x) := by
  intro E i H' m' S' hE x' o'
  unfold enX
  by_cases hi : i ≤ x.cps.size
  · rw [if_pos hi]
    cases e : (sgD x)[i]? with
    | none =>
      have h := List.getElem?_eq_none_iff.mp e
      rw [sgD_len] at h
      exact Nat.le_antisymm hi h
    | some d =>
      have hlt := (List.getElem?_eq_some_iff.mp e).1
      rw [sgD_len] at hlt
      refine ⟨hlt, fun z H2 hz => ?_⟩
      obtain ⟨Ta, c, ob, rfl, hT, hb, rfl, hc⟩ := hz
      unfold sgD at e
      rw [List.getElem?_map] at e
      obtain ⟨c', e1, rfl⟩ := Option.map_eq_some_iff.mp e
      have : x.cps.toList[i]? = some c := by rw [Array.getElem?_toList]; exact hc
      rw [this] at e1
      cases e1
      have x3 := Ext.laid (o := .frz ob (.tup [.int (i : Nat), .str ⟨#[c]⟩])) o' hT
      exact ⟨m', x3, o'.laid hT hb, .tup (.inl (.inr ⟨ob, upd_same⟩)) (Reps.mono x3 o' (.cons (.int _) (.cons (.str _) .nil)))⟩
  · rw [if_neg hi]; exact trivial
def dEnumX (f : DE) : DI := fun G S => (f G S).bind fun p => match p.1 with
  | .str x => some (enX x, x.cps.size + 1, p.2)
  | _ => none
section
variable {X : Cx} {T : List Addr} {e : Expr} {p pos tpos : Pos} {elts : List Expr} {kk : Nat} {f : DE}
theorem iEnumX' (m : X.mg "enumerate" = none) (g : Gl X "enumerate") (h : PE X e (tD X.K T f)) (hs : starEach [e] X.env = [(false, eval e X.env)]) (he : Es1 X e []) : PI X (.Tuple elts kk tpos) (.Call (.Name "enumerate" p) [e] [] pos) (iD X.K T (dEnumX f)) := by
  refine piImp (pi_enXt g m (pa_cons h pa_nil he) hs) fun σ H R ⟨Z, G, S, m, src, n, S', ok, en, f, q⟩ => ?_
  unfold dEnumX at f
  obtain ⟨⟨d, S1⟩, e1, f⟩ := Option.bind_eq_some_iff.mp f
  dsimp only at f
  split at f
  · rename_i x
    cases f
    refine tD.go ok en e1 fun v H1 m1 x1 o1 en1 r1 => ?_
    cases r1
    exact ⟨x, rfl, q _ H1 m1 x1 o1 (srcEX_ok x)⟩
  · cases f
end
theorem eCal0 {X : Cx} {T : List Addr} {k j n : Nat} {x : Str} {st : Stmt} {ps : List Str} {fn : DF} {p pos : Pos} (C : Cal X.prog X.w X.K X.mg X.base T k x st ps fn) (F : Fit X j) (hk : k ≤ j) (hg : Gl X x) (hdb : (x == ("__debug__" : Str)) = false := by decide) (hn : ps.length = n := by rfl) : PE X (.Call (.Name x p) [] [] pos) (tD X.K T (dCallF n dNil fn)) := by
  subst hn
  obtain ⟨f, fd, F1, F2, F3, F4⟩ := C.ex
  refine ⟨fun pins s σ H Q I ⟨Z, G, S, m, d, S', ok, en, g, q⟩ => ?_⟩
  unfold dCallF at g
  obtain ⟨⟨ds, S1⟩, e1, e2⟩ := Option.bind_eq_some_iff.mp g
  cases e1
  refine wpAny_Call_Name_kw (ld_glob I hg F2 ?_ hdb)
  refine PySem.W.callWith_K0 I.kIn F3.kp ?_
  split at e2
  case isFalse => cases e2
  rename_i hl
  have b := F4 s [] I.kIn hl
  refine wpAny_call (codeAny_mono (run_D (E := X.xe) F1 (F.room.mono hk) F.clr I b .nil ⟨Z, S, m, [], d, S', hl, ok, .nil, e2, fun v H' m' x' o' r' => q v H' m' x' o' r'⟩) fun r s' hq => ?_)
  cases r with
  | error e => exact hq
  | ok fl => cases fl <;> exact hq
end Vw
set_option maxRecDepth 100000
set_option maxHeartbeats 4000000
namespace Vw
open PySem PySem.Spec PyProof.Rows L2
section
variable {X : Cx} {pins : List (Addr × Obj)} {σ : L2.St} {H : Hp} {s : Shared} {a : Addr} {xs : List V}
theorem tup_at (I : Inv X pins σ H s) (t : TupsOk X.K H) (hq : SqT X.K H a xs) : s.TypeIs (.ref a) "tuple" ∧ ∀ b, Value.ref a = .ref b → ∃ ob, s.heap.get? b = some ob ∧ ob.dict = none := by
  obtain ⟨its, r, pl, hz⟩ := I.tuple hq
  refine ⟨pl.typeIs, fun b e => ?_⟩
  cases e
  rcases hq with (h | ⟨o, h⟩) | ⟨o, us, n, h, hc, _⟩
  · exact (t.hp a _ h).elim
  · exact ⟨o, (I.hok a _ h).1, t.hp a _ h⟩
  · exact ⟨o, I.kIn a o h, t.kt a o h hc⟩
end
def tTM (K : PySem.W.Frag) (r : RM) (to : TE) (t : TA) : TE := fun σ H Q => to σ H fun x H1 => (TupsOk K H1 ∧ ∃ a xs, x = .ref a ∧ SqT K H1 a xs) ∧ t σ H1 fun zs H2 => r x zs H2 Q
section
variable {X : Cx} {o e : Expr} {es : List Expr} {to : TE} {t : TA} {name : Str} {apos cpos : Pos} {id : String} {r : RM}
/-- a method of a tuple is called -/
theorem pe_tm (pa : PlainAttrs "tuple") (slot : Slot "tuple" name id) (hty : typeOf (.builtin id) = pure (.type "method_descriptor")) (hm : MtR X id r) (ho : PE X o to) (ha : PA X (e :: es) t)
    (hbase : attributeBase o name X.env (eval o X.env) = eval o X.env) (hfew : FewB X cpos e es) (hline : (apos.endLine == cpos.line) = true) (hs : starEach (e :: es) X.env = (false, eval e X.env) :: starEach es X.env) (hplain : (backTo cpos (starEach es X.env)).any (·.1) = false) :
    PE X (.Call (.Attribute o name apos) (e :: es) [] cpos) (tTM X.K r to t) := ⟨fun pins s σ H Q I h =>
  wpAny_Call_method_late hbase hfew hline rfl (thn (ho.run pins s σ H _ I h) fun v s1 ⟨x, H1, I1, r1, ⟨tk, a, xs, ex, hq⟩, q1⟩ => by
    subst ex
    cases r1
    obtain ⟨h1, h2⟩ := tup_at I1 tk hq
    have hA := ha.run cpos pins s1 σ H1 _ I1 q1
    rw [hs] at hA ⊢
    exact ⟨"tuple", id, pa, slot, hty, h1, h2, Calls.callWith_builtin (by show (false || (backTo cpos (starEach es X.env)).any (·.1)) = false; rw [hplain]; rfl) (Calls.evalArgs_plain (thn hA fun us s2 ⟨vs, H2, I2, r2, q2⟩ => hm pins s2 σ H2 (.ref a) vs _ us Q I2 rfl r2 q2))⟩)⟩
end
/-- t.index(y), flat items -/
def rTIndex (K : PySem.W.Frag) : V → List V → Hp → VK → Prop := fun x as H Q => ∃ (a : Addr) (ys : List V) (y : V) (j : Nat) (z : V), x = V.ref a ∧ as = [y] ∧ SqT K H a ys ∧ flatV y = true ∧ ys.all flatV = true ∧ ys[j]? = some z ∧ eqV z y = true ∧ (∀ (m : Nat) (z' : V), m < j → ys[m]? = some z' → eqV z' y = false) ∧ Q (.int (j : Nat)) H
theorem mt_tindex {X : Cx} : MtR X "tuple.index" (rTIndex X.K) := by
  rintro pins s σ H _ _ v us Q I rx rs ⟨a, ys, y, j, z, rfl, rfl, hq, fy, fys, hz, hzj, hno, q⟩
  cases rx
  obtain ⟨w, rfl, ry⟩ := vals1 rs
  obtain ⟨its, r, ⟨⟨oc, od, dt, sl⟩, ho, hc, n, hd⟩, _⟩ := I.tuple hq
  cases (show oc = _ from hc)
  cases (show dt = _ from hd)
  have at_ : ∀ (i : Nat) (hi : i < its.toArray.size) (z' : V), ys[i]? = some z' → eqU y its.toArray[i] = eqV z' y := fun i hi z' e => by
    obtain ⟨u, hu, ru⟩ := r.get e
    have e1 : its.toArray[i] = u := by simpa using (List.getElem?_eq_some_iff.mp hu).2
    rw [e1, eqU_of ru (List.all_eq_true.mp fys z' (List.mem_of_getElem? e))]
  have hj : j < its.toArray.size := by rw [List.size_toArray, ← r.length]; exact (List.getElem?_eq_some_iff.mp hz).1
  exact call_meets PySem.F.slot_tuple_index ⟨_, ho, rfl⟩ PySem.F.entry_tuple_index (PySem.F.args_tuple_index_2 _ _) (TI.tuple_indexAt a its.toArray n od sl w (eqU y) j hj ((at_ j hj z hz).trans hzj) fun i hi hij => by
      have hy : i < ys.length := by rw [r.length, ← List.size_toArray]; exact hi
      exact (at_ i hi _ (List.getElem?_eq_getElem hy)).trans (hno i _ hij (List.getElem?_eq_getElem hy)))
    ⟨ho, fun u hu => mem_eqAt ry fy r fys u (by simpa using hu), .int (j : Nat), H, I.tok _, ⟨_, rfl⟩, q⟩
def flD : D → Bool
  | .int _ => true
  | .str _ => true
  | _ => false
def eqIx : D → D → Bool
  | .int a, .int b => a == b
  | .str a, .str b => a == b
  | _, _ => false
/-- the first place of an equal one -/
def idxF (z : D) (ds : List D) : Option Nat := if flD z = true ∧ ds.all flD = true then ds.findIdx? (fun d => eqIx d z) else none
def opIdx : OpM := fun c cs S => match cs with
  | [z] => (seqD S c).bind fun ds => (idxF z ds).map fun (j : Nat) => (.int (j : Nat), S)
  | _ => none
def isTup : D → Bool
  | .tup _ => true
  | _ => false
def dIdx (fo : DE) (fa : DA) : DE := fun G S => (fo G S).bind fun p => if isTup p.1 = true ∨ tyD "list" p.2 p.1 = true then (fa G p.2).bind fun q => opIdx p.1 q.1 q.2 else none
theorem flat_rep {K : PySem.W.Frag × List Addr} {H : Hp} {m : List Addr} {v : V} {d : D} (r : Rep K H m v d) (f : flD d = true) : flatV v = true := by
  cases r <;> first | rfl | cases f
theorem eq_rep {K : PySem.W.Frag × List Addr} {H : Hp} {m : List Addr} {v u : V} {d e : D} (r : Rep K H m v d) (q : Rep K H m u e) (f : flD d = true) (g : flD e = true) : eqV v u = eqIx d e := by
  cases r <;> (first | (cases f; done) | (cases q <;> first | rfl | cases g))
theorem idx_reps {K : PySem.W.Frag × List Addr} {H : Hp} {m : List Addr} {ys : List V} {ds : List D} {y : V} {z : D} {j : Nat} (r : Reps K H m ys ds) (q : Rep K H m y z) (e : idxF z ds = some j) :
    ∃ u, flatV y = true ∧ ys.all flatV = true ∧ ys[j]? = some u ∧ eqV u y = true ∧ ∀ (i : Nat) (z' : V), i < j → ys[i]? = some z' → eqV z' y = false := by
  unfold idxF at e
  split at e
  case isFalse => cases e
  rename_i h
  obtain ⟨h1, h2⟩ := h
  obtain ⟨hj, e1, e2⟩ := List.findIdx?_eq_some_iff_getElem.mp e
  have fd : ∀ (i : Nat) (d : D), ds[i]? = some d → flD d = true := fun i d hd => List.all_eq_true.mp h2 d (List.mem_of_getElem? hd)
  obtain ⟨u, hu, ru⟩ := r.get (List.getElem?_eq_getElem hj)
  refine ⟨u, flat_rep q h1, List.all_eq_true.mpr fun v hv => ?_, hu, (eq_rep ru q (fd j _ (List.getElem?_eq_getElem hj)) h1).trans e1, fun i z' hi hz => ?_⟩
  · obtain ⟨i, hi, rfl⟩ := List.getElem_of_mem hv
    have hi2 : i < ds.length := by rw [← r.len]; exact hi
    obtain ⟨v', hv', rv⟩ := r.get (List.getElem?_eq_getElem hi2)
    rw [List.getElem?_eq_getElem hi] at hv'
    cases hv'
    exact flat_rep rv (fd i _ (List.getElem?_eq_getElem hi2))
  · have hi2 : i < ds.length := by omega
    obtain ⟨v', hv', rv⟩ := r.get (List.getElem?_eq_getElem hi2)
    rw [hz] at hv'
    cases hv'
    rw [eq_rep rv q (fd i _ (List.getElem?_eq_getElem hi2)) h1]
    have := e2 i hi
    simpa using this
section
variable {X : Cx} {T : List Addr} {o e : Expr} {es : List Expr} {apos cpos : Pos} {fo : DE} {fs : DA}
theorem eIndex (ho : PE X o (tD X.K T fo)) (ha : PA X (e :: es) (tA X.K T fs)) (h1 : attributeBase o "index" X.env (eval o X.env) = eval o X.env) (h2 : FewB X cpos e es) (h3 : (apos.endLine == cpos.line) = true) (h4 : starEach (e :: es) X.env = (false, eval e X.env) :: starEach es X.env) (h5 : (backTo cpos (starEach es X.env)).any (·.1) = false) :
    PE X (.Call (.Attribute o "index" apos) (e :: es) [] cpos) (tD X.K T (dIdx fo fs)) := by
  have A := pe_tm (X := X) PySem.F.plainAttrs_tuple PySem.F.slot_tuple_index PySem.F.type_tuple_index mt_tindex ho ha h1 h2 h3 h4 h5
  have B := pe_bm (X := X) PySem.F.plainAttrs_list PySem.F.slot_list_index PySem.F.type_list_index mt_index ho ha h1 h2 h3 h4 h5
  refine peImp (⟨fun pins s σ H Q I h => h.elim (A.run pins s σ H Q I) (B.run pins s σ H Q I)⟩ : PE X _ (fun σ H Q => tTM X.K (rTIndex X.K) (tD X.K T fo) (tA X.K T fs) σ H Q ∨ tBM X.K "list" (rIndex X.K) (tD X.K T fo) (tA X.K T fs) σ H Q)) fun σ H Q ⟨Z, G, S, m, d, S', ok, en, f, q⟩ => ?_
  unfold dIdx at f
  obtain ⟨⟨x, S1⟩, e1, f⟩ := Option.bind_eq_some_iff.mp f
  dsimp only at f
  split at f
  case isFalse => cases f
  rename_i hty
  obtain ⟨⟨cs, S2⟩, e2, f⟩ := Option.bind_eq_some_iff.mp f
  unfold opIdx at f
  dsimp only at f
  split at f
  case h_2 => cases f
  rename_i z
  obtain ⟨ds, e3, f⟩ := Option.bind_eq_some_iff.mp f
  obtain ⟨j, e4, f⟩ := Option.map_eq_some_iff.mp f
  cases f
  by_cases ht : isTup x = true
  · refine .inl (tD.go ok en e1 fun v H1 m1 x1 o1 en1 r1 => ?_)
    cases x with
    | tup es' =>
      cases e3
      cases r1 with
      | tup hq rs =>
        refine ⟨⟨o1.tp, _, _, rfl, hq⟩, tA.go o1 en1 e2 fun us H2 m2 x2 o2 en2 r2 => ?_⟩
        obtain ⟨y, rfl, ry⟩ := one_inv r2
        obtain ⟨u, g1, g2, g3, g4, g5⟩ := idx_reps (Reps.mono x2 o1 rs) ry e4
        exact ⟨_, _, y, j, u, rfl, rfl, x2.rdT o1 hq, g1, g2, g3, g4, g5, q _ H2 m2 (x1.trans x2) o2 (.int _)⟩
    | _ => cases ht
  · have hl : tyD "list" S1 x = true := hty.resolve_left ht
    refine .inr (tD.go ok en e1 fun v H1 m1 x1 o1 en1 r1 => ⟨tyD_ok o1 r1 hl, tA.go o1 en1 e2 fun us H2 m2 x2 o2 en2 r2 => ?_⟩)
    obtain ⟨y, rfl, ry⟩ := one_inv r2
    have e5 : lstD S' x = some ds := by
      cases x with
      | lst xs => exact e3
      | loc n => exact e3
      | str w => cases e3
      | tup xs => exact absurd rfl ht
      | scr xs => exact absurd hl (by show ¬ ("list" == "list" && (lstD S1 (.scr xs)).isSome) = true; simp [lstD])
      | _ => cases e3
    obtain ⟨p, ys, rfl, hq, rs⟩ := lstD_ok o2 (r1.mono x2 o1) e5
    obtain ⟨u, g1, g2, g3, g4, g5⟩ := idx_reps rs ry e4
    exact ⟨_, ys, y, j, u, rfl, rfl, SqL.of hq, g1, g2, g3, g4, g5, q _ H2 m2 (x1.trans x2) o2 (.int _)⟩
end
end Vw
set_option maxRecDepth 100000
set_option maxHeartbeats 4000000
namespace Vk
open PySem PySem.Spec PyProof.Rows L2 Vw
def topS (i : Nat) : Stmt := PySem.Challenge.pw_bowstands_k20_whole_texts_of_runs.main.body.getD i (.Pass ⟨0, 0, 0, 0⟩)
abbrev sI_BadText : Stmt := clsInit (topS 3)
theorem scI_BadText : FnScope ["self", "place"] ["self", "place"] (defScope sI_BadText) := ⟨rfl, rfl, rfl, by decide +kernel, rfl, by decide +kernel, by decide +kernel⟩
theorem txt_BadText {K : PySem.W.Frag} : tTxt K (fun σ H Q => tJs [tC (.str "the text is wrong at "), tFmtR (tVar 1)] Str.empty σ H fun out H1 => Q (.str out) H1) :=
  fun σ H Q y hy ho q => js_lit js_zero (by decide) (by decide) fun a1 h1 => js_fmt hy ho h1 (by decide) fun a2 h2 => q _
theorem init_BadText {P : Program} {w : World} {K : PySem.W.Frag} {mg : Str → Option Value} {base : Heap} {C B fI : Addr} {fd : FuncData} (t : ExT K mg "BadText" "BowError" C B fI) (hno : PySem.W.findIn K (.ref C) "place" = some none) (F : Fun K "__init__" "BadText.__init__" sI_BadText fI fd) : FnOk P w K mg base (L2.CX P w) 1 fI fd ["self", "place"] (spI1 C "place") :=
  init1_of t hno txt_BadText F scI_BadText fun cdv A outer s H E => pss_cons (ps_expr (pe_binit rfl t.gB t.rB t.vB (pa_cons (pe_var (i := 0) rfl (.inl rfl)) (pa_cons (pe_joined (PJ.cons pe_str (PJ.cons (pe_fmtR (pe_var (i := 1) rfl (.inl rfl))) PJ.nil))) pa_nil)) t.db)) (pss_one (ps_ost (pe_var (i := 0) rfl (.inl rfl)) (pe_var (i := 1) rfl (.inl rfl))))
abbrev s_readfigure : Stmt := topS 6
theorem sc_readfigure : FnScope ["text"] ["text"] (defScope s_readfigure) := ⟨rfl, rfl, rfl, by decide +kernel, rfl, by decide +kernel, by decide +kernel⟩
def d_readfigure : DS :=
    (dSeq (dIte (dCmpT (opIn false) (dVar 0) (dCon (.tup [.str ("0" : Str), .str ("1" : Str), .str ("2" : Str), .str ("3" : Str), .str ("4" : Str), .str ("5" : Str)])))
    (dSeq (dRet (dIdx (dCon (.tup [.str ("0" : Str), .str ("1" : Str), .str ("2" : Str), .str ("3" : Str), .str ("4" : Str), .str ("5" : Str)])) (dCons (dVar 0) dNil)))
    dSkip) dSkip)
    (dSeq (dRet (dCon .non))
    dSkip))
def fn_readfigure : DF := dDef 1 d_readfigure
theorem ok_readfigure {P : Program} {w : World} {K : PySem.W.Frag} {mg : Str → Option Value} {base : Heap} {T : List Addr} {gP_FIGURES : Addr} {go_FIGURES : Option Addr} {gi_FIGURES : Array Value} {gn_FIGURES : Nat} {gl_FIGURES : Array (Option Value)} {gv_FIGURES : List V} (g_FIGURES : mg "FIGURES" = some (.ref gP_FIGURES)) (gk_FIGURES : K.lookup gP_FIGURES = some ⟨.type "tuple", go_FIGURES, .seq gi_FIGURES gn_FIGURES, gl_FIGURES⟩) (gs_FIGURES : gi_FIGURES.size ≤ sizeLine) (gf_FIGURES : flatVs gi_FIGURES.toList = some (gv_FIGURES, [.str ("0" : Str), .str ("1" : Str), .str ("2" : Str), .str ("3" : Str), .str ("4" : Str), .str ("5" : Str)])) {f : Addr} (cdv : Value) (A : Around) (outer : List Env) (s : Shared) (H : Hp) (E : XK) (hA : Clr A) (hR : Room 0 (A.deeper (envOfC "read_figure" (defScope s_readfigure) s.heap.objs.size f cdv))) :
    PSs (cxOf (L2.CX P w) P w K mg base ["text"] "read_figure" (defScope s_readfigure) f cdv A outer s H E) (defBody s_readfigure) (sD K T d_readfigure) := by
  have Ft : Fit (cxOf (L2.CX P w) P w K mg base ["text"] "read_figure" (defScope s_readfigure) f cdv A outer s H E) 0 := fit_cx sc_readfigure hA hR
  exact (rSeq (rIte (tIn Ft (eName 0 rfl (.inl rfl)) (eGTup g_FIGURES rfl gk_FIGURES gs_FIGURES gf_FIGURES (by decide)) rfl)
    (rSeq (rRet (eIndex (eGTup g_FIGURES rfl gk_FIGURES gs_FIGURES gf_FIGURES (by decide)) (rCons (eName 0 rfl (.inl rfl)) rNil rfl) rfl rfl rfl rfl rfl))
    rSkip) rSkip)
    (rSeq (rRet eNon)
    rSkip))
abbrev s_runtext : Stmt := topS 8
theorem sc_runtext : FnScope ["run", "hand"] ["run"] (defScope s_runtext) := ⟨rfl, rfl, rfl, by decide +kernel, rfl, by decide +kernel, by decide +kernel⟩
def d_runtext : DS :=
    (dSeq (dRet (dJoin (dCon (.str ("" : Str))) (dLc false [1] (dSeqI (dVar 0)) (dgName 1) dYes (dCall opStrI (dCons (dVar 1) dNil)))))
    dSkip)
def fn_runtext : DF := dDef 2 d_runtext
theorem ok_runtext {P : Program} {w : World} {K : PySem.W.Frag} {mg : Str → Option Value} {base : Heap} {T : List Addr} (m_str : mg "str" = none) {f : Addr} (cdv : Value) (A : Around) (outer : List Env) (s : Shared) (H : Hp) (E : XK) (hA : Clr A) (hR : Room 0 (A.deeper (envOfC "run_text" (defScope s_runtext) s.heap.objs.size f cdv))) :
    PSs (cxOf (L2.CX P w) P w K mg base ["run", "hand"] "run_text" (defScope s_runtext) f cdv A outer s H E) (defBody s_runtext) (sD K T d_runtext) := by
  have Ft : Fit (cxOf (L2.CX P w) P w K mg base ["run", "hand"] "run_text" (defScope s_runtext) f cdv A outer s H E) 0 := fit_cx sc_runtext hA hR
  exact (rSeq (rRet (eJoin eStr (rLc (c := false) Ft.calm Ft.nd (iSeq (eName 0 rfl (.inl rfl))) (own := [("hand", 1)]) (blk_by (by exact rfl)) (fun _ _ _ _ _ => (gName' 1 (by decide) (fit_blk Ft _ _ _ _ _).nd rfl (.inl rfl) (.inr rfl))) (fun _ _ _ _ _ => rtNil) (fun _ _ _ _ _ => (eStrI m_str rfl (rCons (eName 1 rfl (.inl rfl)) rNil rfl))))))
    rSkip)
abbrev s_readrun : Stmt := topS 9
theorem sc_readrun : FnScope ["value", "run", "place", "sign", "hand"] ["value"] (defScope s_readrun) := ⟨rfl, rfl, rfl, by decide +kernel, rfl, by decide +kernel, by decide +kernel⟩
def d_readrun : DS :=
    (dSeq (dIte (dNot (dTst (dIsi "str" (dVar 0))))
    (dSeq dNever
    dSkip) dSkip)
    (dSeq (dAsg (dLst true dNil) (dgName 1))
    (dSeq (dFor (dEnumX (dVar 0)) (dgTup 2 (dgCons (dgName 2) (dgCons (dgName 3) dgNil)))
    (dSeq (dAsg (dCallF 1 (dCons (dVar 3) dNil) fn_readfigure) (dgName 4))
    (dSeq (dIte (dOr (dCmpT (opIsN false) (dVar 4) (dCon .non)) (dCmpT (opCmp fun i j => decide (j ≤ i)) (dVar 2) (dCon (.int 900))))
    (dSeq dNever
    dSkip) dSkip)
    (dSeq (dExpr (dMeth "list" opAppend (dVar 1) (dCons (dVar 4) dNil)))
    dSkip))))
    (dSeq (dRet (dCall opTuple (dCons (dVar 1) dNil)))
    dSkip))))
def fn_readrun : DF := dDef 5 d_readrun
def x_readrun : SXF :=
    (sxSeq (dIte (dNot (dTst (dIsi "str" (dVar 0))))
    (dSeq dNever
    dSkip) dSkip) (sxIte (dNot (dTst (dIsi "str" (dVar 0))))
    (sxSeq dNever (sxRaise1 "BadText" "place" (dCon (.int 0)))
    sxNo) sxNo)
    (sxSeq (dAsg (dLst true dNil) (dgName 1)) sxNo
    (sxSeq (dFor (dEnumX (dVar 0)) (dgTup 2 (dgCons (dgName 2) (dgCons (dgName 3) dgNil)))
    (dSeq (dAsg (dCallF 1 (dCons (dVar 3) dNil) fn_readfigure) (dgName 4))
    (dSeq (dIte (dOr (dCmpT (opIsN false) (dVar 4) (dCon .non)) (dCmpT (opCmp fun i j => decide (j ≤ i)) (dVar 2) (dCon (.int 900))))
    (dSeq dNever
    dSkip) dSkip)
    (dSeq (dExpr (dMeth "list" opAppend (dVar 1) (dCons (dVar 4) dNil)))
    dSkip)))) (sxFor (dEnumX (dVar 0)) (dgTup 2 (dgCons (dgName 2) (dgCons (dgName 3) dgNil)))
    (dSeq (dAsg (dCallF 1 (dCons (dVar 3) dNil) fn_readfigure) (dgName 4))
    (dSeq (dIte (dOr (dCmpT (opIsN false) (dVar 4) (dCon .non)) (dCmpT (opCmp fun i j => decide (j ≤ i)) (dVar 2) (dCon (.int 900))))
    (dSeq dNever
    dSkip) dSkip)
    (dSeq (dExpr (dMeth "list" opAppend (dVar 1) (dCons (dVar 4) dNil)))
    dSkip)))
    (sxSeq (dAsg (dCallF 1 (dCons (dVar 3) dNil) fn_readfigure) (dgName 4)) sxNo
    (sxSeq (dIte (dOr (dCmpT (opIsN false) (dVar 4) (dCon .non)) (dCmpT (opCmp fun i j => decide (j ≤ i)) (dVar 2) (dCon (.int 900))))
    (dSeq dNever
    dSkip) dSkip) (sxIte (dOr (dCmpT (opIsN false) (dVar 4) (dCon .non)) (dCmpT (opCmp fun i j => decide (j ≤ i)) (dVar 2) (dCon (.int 900))))
    (sxSeq dNever (sxRaise1 "BadText" "place" (dVar 2))
    sxNo) sxNo)
    sxNo)))
    sxNo)))
def xfn_readrun : DXF := dxDef 5 x_readrun
theorem ok_readrun {P : Program} {w : World} {K : PySem.W.Frag} {mg : Str → Option Value} {base : Heap} {T : List Addr} (m_enumerate : mg "enumerate" = none) (m_isinstance : mg "isinstance" = none) (m_str : mg "str" = none) (m_tuple : mg "tuple" = none) {gt_MAX_MOVES : Tok} (g_MAX_MOVES : mg "MAX_MOVES" = some (.int 900 gt_MAX_MOVES)) (C_readfigure : Cal P w K mg base T 1 "read_figure" s_readfigure ["text"] fn_readfigure) {C_BadText : Addr} {B_BadText fI_BadText : Addr} {fd_BadText : FuncData} (t_BadText : ExT K mg "BadText" "BowError" C_BadText B_BadText fI_BadText) (i_BadText : FnOk P w K mg base (L2.CX P w) 1 fI_BadText fd_BadText ["self", "place"] (spI1 C_BadText "place")) (b_BadText : Binds K fd_BadText ["self", "place"] []) {f : Addr} (cdv : Value) (A : Around) (outer : List Env) (s : Shared) (H : Hp) (E : XK) (hA : Clr A) (hR : Room 2 (A.deeper (envOfC "read_run" (defScope s_readrun) s.heap.objs.size f cdv))) :
    PSs (cxOf (L2.CX P w) P w K mg base ["value", "run", "place", "sign", "hand"] "read_run" (defScope s_readrun) f cdv A outer s H E) (defBody s_readrun) (sD K T d_readrun) ∧
      PSs (cxOf (L2.CX P w) P w K mg base ["value", "run", "place", "sign", "hand"] "read_run" (defScope s_readrun) f cdv A outer s H E) (defBody s_readrun) (sX K T mg (fun cls dx _ H2 => E cls dx H2) x_readrun) := by
  have Ft : Fit (cxOf (L2.CX P w) P w K mg base ["value", "run", "place", "sign", "hand"] "read_run" (defScope s_readrun) f cdv A outer s H E) 2 := fit_cx sc_readrun hA hR
  exact ⟨(rSeq (rIte (rNot (tVal (eIsi "str" (eName 0 rfl (.inl rfl)) m_isinstance rfl m_str rfl (by decide +kernel) (by decide) (by decide)) (by intro _; rfl)))
    (rSeq rNever
    rSkip) rSkip)
    (rSeq (sSet 1 Ft.nd rfl (.inl rfl) (rLst (c := true) rNil) rfl (.inl rfl))
    (rSeq (sFor (I := [2, 3]) (passes_of rfl) rfl (iEnumX' m_enumerate rfl (eName 0 rfl (.inl rfl)) rfl rfl) (gTup' Ft.calm (rgCons (gName' 2 (by decide) Ft.nd rfl (.inl rfl) (.inr rfl)) (rgCons (gName' 3 (by decide) Ft.nd rfl (.inl rfl) (.inr rfl)) rgNil rfl) rfl) rfl rfl)
    (rSeq (sSet 4 Ft.nd rfl (.inl rfl) (eCal C_readfigure Ft (by decide) rfl (rCons (eName 3 rfl (.inl rfl)) rNil rfl)) rfl (.inl rfl))
    (rSeq (rIte (PW.pt (wOr (tIs (eName 4 rfl (.inl rfl)) eNon) (wOr1 (tGe (eName 2 rfl (.inl rfl)) (eGInt g_MAX_MOVES rfl (by decide))))))
    (rSeq rNever
    rSkip) rSkip)
    (rSeq (rExpr (eAppend (eName 1 rfl (.inl rfl)) (rCons (eName 4 rfl (.inl rfl)) rNil rfl) rfl rfl rfl rfl rfl) rfl)
    rSkip))) (fun _ => rfl))
    (rSeq (rRet (eTupOf m_tuple rfl (rCons (eName 1 rfl (.inl rfl)) rNil rfl)))
    rSkip)))),
    (xSeq (rIte (rNot (tVal (eIsi "str" (eName 0 rfl (.inl rfl)) m_isinstance rfl m_str rfl (by decide +kernel) (by decide) (by decide)) (by intro _; rfl)))
    (rSeq rNever
    rSkip) rSkip) (xIte (rNot (tVal (eIsi "str" (eName 0 rfl (.inl rfl)) m_isinstance rfl m_str rfl (by decide +kernel) (by decide) (by decide)) (by intro _; rfl)))
    (xSeq rNever (xRaise1 rfl (takes_of rfl rfl rfl rfl) t_BadText i_BadText (Ft.mono (by decide)).room b_BadText rfl (by decide) eInt rfl rfl)
    (xNoSs (d := dSkip) rSkip)) (xNoSs (d := dSkip) rSkip))
    (xSeq (sSet 1 Ft.nd rfl (.inl rfl) (rLst (c := true) rNil) rfl (.inl rfl)) (xNoS (d := (dAsg (dLst true dNil) (dgName 1))) (sSet 1 Ft.nd rfl (.inl rfl) (rLst (c := true) rNil) rfl (.inl rfl)))
    (xSeq (sFor (I := [2, 3]) (passes_of rfl) rfl (iEnumX' m_enumerate rfl (eName 0 rfl (.inl rfl)) rfl rfl) (gTup' Ft.calm (rgCons (gName' 2 (by decide) Ft.nd rfl (.inl rfl) (.inr rfl)) (rgCons (gName' 3 (by decide) Ft.nd rfl (.inl rfl) (.inr rfl)) rgNil rfl) rfl) rfl rfl)
    (rSeq (sSet 4 Ft.nd rfl (.inl rfl) (eCal C_readfigure Ft (by decide) rfl (rCons (eName 3 rfl (.inl rfl)) rNil rfl)) rfl (.inl rfl))
    (rSeq (rIte (PW.pt (wOr (tIs (eName 4 rfl (.inl rfl)) eNon) (wOr1 (tGe (eName 2 rfl (.inl rfl)) (eGInt g_MAX_MOVES rfl (by decide))))))
    (rSeq rNever
    rSkip) rSkip)
    (rSeq (rExpr (eAppend (eName 1 rfl (.inl rfl)) (rCons (eName 4 rfl (.inl rfl)) rNil rfl) rfl rfl rfl rfl rfl) rfl)
    rSkip))) (fun _ => rfl)) (xFor (I := [2, 3]) (passes_of rfl) rfl (iEnumX' m_enumerate rfl (eName 0 rfl (.inl rfl)) rfl rfl) (gTup' Ft.calm (rgCons (gName' 2 (by decide) Ft.nd rfl (.inl rfl) (.inr rfl)) (rgCons (gName' 3 (by decide) Ft.nd rfl (.inl rfl) (.inr rfl)) rgNil rfl) rfl) rfl rfl)
    (rSeq (sSet 4 Ft.nd rfl (.inl rfl) (eCal C_readfigure Ft (by decide) rfl (rCons (eName 3 rfl (.inl rfl)) rNil rfl)) rfl (.inl rfl))
    (rSeq (rIte (PW.pt (wOr (tIs (eName 4 rfl (.inl rfl)) eNon) (wOr1 (tGe (eName 2 rfl (.inl rfl)) (eGInt g_MAX_MOVES rfl (by decide))))))
    (rSeq rNever
    rSkip) rSkip)
    (rSeq (rExpr (eAppend (eName 1 rfl (.inl rfl)) (rCons (eName 4 rfl (.inl rfl)) rNil rfl) rfl rfl rfl rfl rfl) rfl)
    rSkip)))
    (xSeq (sSet 4 Ft.nd rfl (.inl rfl) (eCal C_readfigure Ft (by decide) rfl (rCons (eName 3 rfl (.inl rfl)) rNil rfl)) rfl (.inl rfl)) (xNoS (d := (dAsg (dCallF 1 (dCons (dVar 3) dNil) fn_readfigure) (dgName 4))) (sSet 4 Ft.nd rfl (.inl rfl) (eCal C_readfigure Ft (by decide) rfl (rCons (eName 3 rfl (.inl rfl)) rNil rfl)) rfl (.inl rfl)))
    (xSeq (rIte (PW.pt (wOr (tIs (eName 4 rfl (.inl rfl)) eNon) (wOr1 (tGe (eName 2 rfl (.inl rfl)) (eGInt g_MAX_MOVES rfl (by decide))))))
    (rSeq rNever
    rSkip) rSkip) (xIte (PW.pt (wOr (tIs (eName 4 rfl (.inl rfl)) eNon) (wOr1 (tGe (eName 2 rfl (.inl rfl)) (eGInt g_MAX_MOVES rfl (by decide))))))
    (xSeq rNever (xRaise1 rfl (takes_of rfl rfl rfl rfl) t_BadText i_BadText (Ft.mono (by decide)).room b_BadText rfl (by decide) (eName 2 rfl (.inl rfl)) rfl rfl)
    (xNoSs (d := dSkip) rSkip)) (xNoSs (d := dSkip) rSkip))
    (xNoSs (d := (dSeq (dExpr (dMeth "list" opAppend (dVar 1) (dCons (dVar 4) dNil)))
    dSkip)) (rSeq (rExpr (eAppend (eName 1 rfl (.inl rfl)) (rCons (eName 4 rfl (.inl rfl)) rNil rfl) rfl rfl rfl rfl rfl) rfl)
    rSkip)))) (fun _ => rfl))
    (xNoSs (d := (dSeq (dRet (dCall opTuple (dCons (dVar 1) dNil)))
    dSkip)) (rSeq (rRet (eTupOf m_tuple rfl (rCons (eName 1 rfl (.inl rfl)) rNil rfl)))
    rSkip)))))⟩
abbrev s_lawbag : Stmt := topS 11
theorem sc_lawbag : FnScope ["script", "cells", "stirred", "cell"] ["script"] (defScope s_lawbag) := ⟨rfl, rfl, rfl, by decide +kernel, rfl, by decide +kernel, by decide +kernel⟩
abbrev d_lawbag : DS := Vw.d_bagC 15820
abbrev fn_lawbag : DF := Vw.fn_bagC 15820
theorem ok_lawbag {P : Program} {w : World} {K : PySem.W.Frag} {mg : Str → Option Value} {base : Heap} {T : List Addr} (m_abs : mg "abs" = none) (m_int : mg "int" = none) (m_len : mg "len" = none) {f : Addr} (cdv : Value) (A : Around) (outer : List Env) (s : Shared) (H : Hp) (E : XK) (hA : Clr A) (hR : Room 0 (A.deeper (envOfC "_law_bag" (defScope s_lawbag) s.heap.objs.size f cdv))) :
    PSs (cxOf (L2.CX P w) P w K mg base ["script", "cells", "stirred", "cell"] "_law_bag" (defScope s_lawbag) f cdv A outer s H E) (defBody s_lawbag) (sD K T d_lawbag) := by
  have Ft : Fit (cxOf (L2.CX P w) P w K mg base ["script", "cells", "stirred", "cell"] "_law_bag" (defScope s_lawbag) f cdv A outer s H E) 0 := fit_cx sc_lawbag hA hR
  exact (rSeq (sPar 1 2 Ft.calm Ft.nd rfl rfl (by decide) rfl rfl (rCons (rLc (c := false) Ft.calm Ft.nd (iSeq (rSlL (c := false) (eName 0 rfl (.inl rfl)) roNone (roSome eInt))) (own := [("cell", 3)]) (blk_by (by exact rfl)) (fun _ _ _ _ _ => (gName' 3 (by decide) (fit_blk Ft _ _ _ _ _).nd rfl (.inl rfl) (.inr rfl))) (fun _ _ _ _ _ => rtNil) (fun _ _ _ _ _ => (eAdd false (eMul false eInt (eAbs m_abs rfl (rCons (eName 3 rfl (.inl rfl)) rNil rfl))) (eIntOf m_int rfl (rCons (eLt (eName 3 rfl (.inl rfl)) eInt) rNil rfl))))) (rCons (eAdd false eInt (eLen m_len rfl (rCons (eName 0 rfl (.inl rfl)) rNil rfl))) rNil rfl) rfl) rfl rfl)
    (rSeq (sFor (I := [3]) (passes_of rfl) rfl (iSeq (eName 1 rfl (.inl rfl))) (gName' 3 (by decide) Ft.nd rfl (.inl rfl) (.inr rfl))
    (rSeq (sSet 2 Ft.nd rfl (.inl rfl) (eMod (eIntOf m_int rfl (rCons (eAdd false (eAdd false (eMul false (eName 2 rfl (.inl rfl)) eInt) (eName 3 rfl (.inl rfl))) eInt) rNil rfl)) eInt) rfl (.inl rfl))
    rSkip) (fun _ => rfl))
    (rSeq (rRet (rDisp (c := true) (rpCons (κ := .inr ("far" : Str)) pe_str (rLc (c := true) Ft.calm Ft.nd (iSeq (eName 1 rfl (.inl rfl))) (own := [("cell", 3)]) (blk_by (by exact rfl)) (fun _ _ _ _ _ => (gName' 3 (by decide) (fit_blk Ft _ _ _ _ _).nd rfl (.inl rfl) (.inr rfl))) (fun _ _ _ _ _ => (rtOne (tGe (eName 3 rfl (.inl rfl)) (ePow eInt eInt)))) (fun _ _ _ _ _ => (eName 3 rfl (.inl rfl)))) (rpCons (κ := .inr ("stirred" : Str)) pe_str (eName 2 rfl (.inl rfl)) (rpCons (κ := .inr ("turn" : Str)) pe_str eInt rpNil))) (by decide +kernel) rfl rfl (by exact List.cons_ne_nil _ _) (by decide) (by decide)))
    rSkip)))
abbrev s_lawdraw : Stmt := topS 12
theorem sc_lawdraw : FnScope ["bag", "size", "far", "whole", "turn", "mixed"] ["bag", "size"] (defScope s_lawdraw) := ⟨rfl, rfl, rfl, by decide +kernel, rfl, by decide +kernel, by decide +kernel⟩
abbrev d_lawdraw : DS := Vw.d_lawdraw
abbrev fn_lawdraw : DF := Vw.fn_lawdraw
theorem ok_lawdraw {P : Program} {w : World} {K : PySem.W.Frag} {mg : Str → Option Value} {base : Heap} {T : List Addr} (m_int : mg "int" = none) {f : Addr} (cdv : Value) (A : Around) (outer : List Env) (s : Shared) (H : Hp) (E : XK) (hA : Clr A) (hR : Room 0 (A.deeper (envOfC "_law_draw" (defScope s_lawdraw) s.heap.objs.size f cdv))) :
    PSs (cxOf (L2.CX P w) P w K mg base ["bag", "size", "far", "whole", "turn", "mixed"] "_law_draw" (defScope s_lawdraw) f cdv A outer s H E) (defBody s_lawdraw) (sD K T d_lawdraw) := by
  have Ft : Fit (cxOf (L2.CX P w) P w K mg base ["bag", "size", "far", "whole", "turn", "mixed"] "_law_draw" (defScope s_lawdraw) f cdv A outer s H E) 0 := fit_cx sc_lawdraw hA hR
  exact (rSeq (sSet 2 Ft.nd rfl (.inl rfl) (eIx Ft (eName 0 rfl (.inl rfl)) eStr (fun _ _ => rfl)) rfl (.inl rfl))
    (rSeq (rIte (tNe Ft (eName 2 rfl (.inl rfl)) (rLst (c := false) rNil))
    (rSeq (sSet 3 Ft.nd rfl (.inl rfl) (ePopAt (eName 2 rfl (.inl rfl)) (rCons eInt rNil rfl) rfl rfl rfl rfl rfl) rfl (.inl rfl))
    (rSeq (rIte (tGe (eName 3 rfl (.inl rfl)) (eName 1 rfl (.inl rfl)))
    (rSeq (rExpr (eInsert (eName 2 rfl (.inl rfl)) (rCons eInt (rCons (eDiv (eName 3 rfl (.inl rfl)) (eName 1 rfl (.inl rfl))) rNil rfl) rfl) rfl rfl rfl rfl rfl) rfl)
    rSkip) rSkip)
    (rSeq (rRet (eMod (eIntOf m_int rfl (rCons (eName 3 rfl (.inl rfl)) rNil rfl)) (eName 1 rfl (.inl rfl))))
    rSkip))) rSkip)
    (rSeq (sAsg (I := []) (eAdd false (eIx Ft (eName 0 rfl (.inl rfl)) eStr (fun _ _ => rfl)) eInt) (gSub' Ft (eName 0 rfl (.inl rfl)) eStr (by intro _; rfl)) rfl rfl rfl)
    (rSeq (sSet 4 Ft.nd rfl (.inl rfl) (eIx Ft (eName 0 rfl (.inl rfl)) eStr (fun _ _ => rfl)) rfl (.inl rfl))
    (rSeq (sSet 5 Ft.nd rfl (.inl rfl) (eMod (eIntOf m_int rfl (rCons (eAdd false (eAdd false (eMul false (eIx Ft (eName 0 rfl (.inl rfl)) eStr (fun _ _ => rfl)) eInt) (eMul false (eMul false (eName 4 rfl (.inl rfl)) (eName 4 rfl (.inl rfl))) eInt)) (eMul false eInt (eName 4 rfl (.inl rfl)))) rNil rfl)) eInt) rfl (.inl rfl))
    (rSeq (sSet 5 Ft.nd rfl (.inl rfl) (eMod (eIntOf m_int rfl (rCons (eAdd false (eMul false (eName 5 rfl (.inl rfl)) eInt) (eDiv (eName 5 rfl (.inl rfl)) eInt)) rNil rfl)) eInt) rfl (.inl rfl))
    (rSeq (sAsg (I := []) (eName 5 rfl (.inl rfl)) (gSub' Ft (eName 0 rfl (.inl rfl)) eStr (by intro _; rfl)) rfl rfl rfl)
    (rSeq (rRet (eMod (eIntOf m_int rfl (rCons (eDiv (eName 5 rfl (.inl rfl)) eInt) rNil rfl)) (eName 1 rfl (.inl rfl))))
    rSkip))))))))
abbrev s_lawpick : Stmt := topS 13
theorem sc_lawpick : FnScope ["bag", "some"] ["bag", "some"] (defScope s_lawpick) := ⟨rfl, rfl, rfl, by decide +kernel, rfl, by decide +kernel, by decide +kernel⟩
abbrev d_lawpick : DS := Vw.d_lawpick
abbrev fn_lawpick : DF := Vw.fn_lawpick
theorem ok_lawpick {P : Program} {w : World} {K : PySem.W.Frag} {mg : Str → Option Value} {base : Heap} {T : List Addr} (m_len : mg "len" = none) (C_lawdraw : Cal P w K mg base T 1 "_law_draw" s_lawdraw ["bag", "size"] fn_lawdraw) {f : Addr} (cdv : Value) (A : Around) (outer : List Env) (s : Shared) (H : Hp) (E : XK) (hA : Clr A) (hR : Room 1 (A.deeper (envOfC "_law_pick" (defScope s_lawpick) s.heap.objs.size f cdv))) :
    PSs (cxOf (L2.CX P w) P w K mg base ["bag", "some"] "_law_pick" (defScope s_lawpick) f cdv A outer s H E) (defBody s_lawpick) (sD K T d_lawpick) := by
  have Ft : Fit (cxOf (L2.CX P w) P w K mg base ["bag", "some"] "_law_pick" (defScope s_lawpick) f cdv A outer s H E) 1 := fit_cx sc_lawpick hA hR
  exact (rSeq (rRet (eIx Ft (eName 1 rfl (.inl rfl)) (eCal C_lawdraw Ft (by decide) rfl (rCons (eName 0 rfl (.inl rfl)) (rCons (eLen m_len rfl (rCons (eName 1 rfl (.inl rfl)) rNil rfl)) rNil rfl) rfl)) (fun _ _ => rfl)))
    rSkip)
abbrev s_lawread : Stmt := topS 14
theorem sc_lawread : FnScope ["thing", "wrong", "k", "sign"] ["thing"] (defScope s_lawread) := ⟨rfl, rfl, rfl, by decide +kernel, rfl, by decide +kernel, by decide +kernel⟩
def d_lawread : DS :=
    (dSeq (dIte (dNot (dTst (dIsi "str" (dVar 0))))
    (dSeq (dRet (dLst false (dCons (dCon (.str ("text" : Str))) (dCons (dCon (.int 0)) (dCons (dCon (.bl true)) dNil)))))
    dSkip) dSkip)
    (dSeq (dAsg (dLc false [2, 3] (dEnumX (dVar 0)) (dgTup 2 (dgCons (dgName 2) (dgCons (dgName 3) dgNil))) (dOr (dCmpT (opCmp fun i j => decide (j ≤ i)) (dVar 2) (dCon (.int 900))) (dCmpT (opIn true) (dVar 3) (dTup (dCons (dCon (.str ("0" : Str))) (dCons (dCon (.str ("1" : Str))) (dCons (dCon (.str ("2" : Str))) (dCons (dCon (.str ("3" : Str))) (dCons (dCon (.str ("4" : Str))) (dCons (dCon (.str ("5" : Str))) dNil))))))))) (dVar 2)) (dgName 1))
    (dSeq (dIte (dCmpT (opEq true) (dVar 1) (dLst false dNil))
    (dSeq (dRet (dLst false (dCons (dCon (.str ("text" : Str))) (dCons (dBin opIx (dVar 1) (dCon (.int 0))) (dCons (dCon (.bl true)) dNil)))))
    dSkip) dSkip)
    (dSeq (dRet (dLst false (dCons (dCall opTuple (dCons (dLc false [3] (dTxtI (dVar 0)) (dgName 3) dYes (dCall opIntT (dCons (dVar 3) dNil))) dNil)) dNil)))
    dSkip))))
def fn_lawread : DF := dDef 4 d_lawread
theorem ok_lawread {P : Program} {w : World} {K : PySem.W.Frag} {mg : Str → Option Value} {base : Heap} {T : List Addr} (m_enumerate : mg "enumerate" = none) (m_int : mg "int" = none) (m_isinstance : mg "isinstance" = none) (m_str : mg "str" = none) (m_tuple : mg "tuple" = none) {f : Addr} (cdv : Value) (A : Around) (outer : List Env) (s : Shared) (H : Hp) (E : XK) (hA : Clr A) (hR : Room 0 (A.deeper (envOfC "_law_read" (defScope s_lawread) s.heap.objs.size f cdv))) :
    PSs (cxOf (L2.CX P w) P w K mg base ["thing", "wrong", "k", "sign"] "_law_read" (defScope s_lawread) f cdv A outer s H E) (defBody s_lawread) (sD K T d_lawread) := by
  have Ft : Fit (cxOf (L2.CX P w) P w K mg base ["thing", "wrong", "k", "sign"] "_law_read" (defScope s_lawread) f cdv A outer s H E) 0 := fit_cx sc_lawread hA hR
  exact (rSeq (rIte (rNot (tVal (eIsi "str" (eName 0 rfl (.inl rfl)) m_isinstance rfl m_str rfl (by decide +kernel) (by decide) (by decide)) (by intro _; rfl)))
    (rSeq (rRet (rLst (c := false) (rCons eStr (rCons eInt (rCons eBl rNil rfl) rfl) rfl)))
    rSkip) rSkip)
    (rSeq (rSetLc (i := 1) (c := false) Ft.calm Ft.nd rfl rfl rfl (iEnumX' m_enumerate rfl (eName 0 rfl (.inl rfl)) rfl rfl) (own := [("k", 2), ("sign", 3)]) (blk_by (by exact rfl)) (fun _ _ _ _ _ => (gTup' (fit_blk Ft _ _ _ _ _).calm (rgCons (gName' 2 (by decide) (fit_blk Ft _ _ _ _ _).nd rfl (.inl rfl) (.inr rfl)) (rgCons (gName' 3 (by decide) (fit_blk Ft _ _ _ _ _).nd rfl (.inl rfl) (.inr rfl)) rgNil rfl) rfl) rfl rfl)) (fun _ _ _ _ _ => (rtOne (PW.pt (wOr (tGe (eName 2 rfl (.inl rfl)) eInt) (wOr1 (tNotIn (fit_blk Ft _ _ _ _ _) (eName 3 rfl (.inl rfl)) (rTup (rCons eStr (rCons eStr (rCons eStr (rCons eStr (rCons eStr (rCons eStr rNil rfl) rfl) rfl) rfl) rfl) rfl)) rfl)))))) (fun _ _ _ _ _ => (eName 2 rfl (.inl rfl))))
    (rSeq (rIte (tNe Ft (eName 1 rfl (.inl rfl)) (rLst (c := false) rNil))
    (rSeq (rRet (rLst (c := false) (rCons eStr (rCons (eIx Ft (eName 1 rfl (.inl rfl)) eInt (fun _ _ => rfl)) (rCons eBl rNil rfl) rfl) rfl)))
    rSkip) rSkip)
    (rSeq (rRet (rLst (c := false) (rCons (eTupOf m_tuple rfl (rCons (rLc (c := false) Ft.calm Ft.nd (iTxt (eName 0 rfl (.inl rfl))) (own := [("sign", 3)]) (blk_by (by exact rfl)) (fun _ _ _ _ _ => (gName' 3 (by decide) (fit_blk Ft _ _ _ _ _).nd rfl (.inl rfl) (.inr rfl))) (fun _ _ _ _ _ => rtNil) (fun _ _ _ _ _ => (eIntT m_int rfl (rCons (eName 3 rfl (.inl rfl)) rNil rfl)))) rNil rfl)) rNil rfl)))
    rSkip))))
abbrev s_lawheard : Stmt := topS 15
theorem sc_lawheard : FnScope ["thing", "is_named", "slip"] ["thing", "is_named"] (defScope s_lawheard) := ⟨rfl, rfl, rfl, by decide +kernel, rfl, by decide +kernel, by decide +kernel⟩
def d_lawheard : DS :=
    (dSeq (dTry (some 2) (mtOf [("BadText" : Str)])
    (dSeq (dRet (dLst false (dCons (dIf (dTst (dVar 1)) (dCallW 1 0 1 [0] dNone (dkCons (dVar 0) dNone) fn_readrun) (dCallF 1 (dCons (dVar 0) dNil) fn_readrun)) dNil)))
    dSkip)
    (sxSeq (dRet (dLst false (dCons (dIf (dTst (dVar 1)) (dCallW 1 0 1 [0] dNone (dkCons (dVar 0) dNone) fn_readrun) (dCallF 1 (dCons (dVar 0) dNil) fn_readrun)) dNil))) (sxE (dxIf (dTst (dVar 1)) (dxCallW 1 0 1 [0] dNone (dkCons (dVar 0) dNone) xfn_readrun) (dxCall 1 (dCons (dVar 0) dNil) xfn_readrun)))
    sxNo)
    (uRet (uLst (uCons (fun _ => (dCon (.str ("text" : Str)))) (uCons (uFld "BadText" "place") (uCons (uIsi "BadText" true) (fun _ => dNil)))))))
    dSkip)
def fn_lawheard : DF := dDef 3 d_lawheard
theorem kw_readrun_0_value : KwOk "read_run" s_readrun ["value"] ["value"] 0 [0] := fun _ _ _ _ _ _ us ws h1 h2 => match us, ws, h1, h2 with | [], [_], _, _ => rfl
theorem ok_lawheard {P : Program} {w : World} {K : PySem.W.Frag} {mg : Str → Option Value} {base : Heap} {T : List Addr} (m_isinstance : mg "isinstance" = none) (C_readrun : Cal P w K mg base T 3 "read_run" s_readrun ["value"] fn_readrun) (CX_readrun : CalX P w K mg base T 3 "read_run" s_readrun ["value"] fn_readrun xfn_readrun) {C_BadText : Addr} {C_BowError : Addr} (g_BadText : mg "BadText" = some (.ref C_BadText)) (ex_BadText_BadText : PySem.W.exmOne K (.ref C_BadText) (.ref C_BadText) = some true) (g_BowError : mg "BowError" = some (.ref C_BowError)) (xc_BadText : ExcC K C_BadText) (ki_BadText_BowError : PySem.W.kitOne K (.ref C_BadText) (.ref C_BowError) = some true) (xf_BadText : XfC K C_BadText) (no_BadText_place : PySem.W.findIn K (.ref C_BadText) "place" = some none) {f : Addr} (cdv : Value) (A : Around) (outer : List Env) (s : Shared) (H : Hp) (E : XK) (hA : Clr A) (hR : Room 3 (A.deeper (envOfC "_law_heard" (defScope s_lawheard) s.heap.objs.size f cdv))) :
    PSs (cxOf (L2.CX P w) P w K mg base ["thing", "is_named", "slip"] "_law_heard" (defScope s_lawheard) f cdv A outer s H E) (defBody s_lawheard) (sD K T d_lawheard) := by
  have Ft : Fit (cxOf (L2.CX P w) P w K mg base ["thing", "is_named", "slip"] "_law_heard" (defScope s_lawheard) f cdv A outer s H E) 3 := fit_cx sc_lawheard hA hR
  exact (rSeq (rTryAs rfl rfl Ft.nd rfl rfl ⟨rfl, by decide, .inl g_BadText⟩ (mtOf_ok (mt_cons g_BadText ex_BadText_BadText mt_nil))
    (fun pn xe po => (rSeq (rRet (rLst (c := false) (rCons (rIf (tVal (eName 1 rfl (.inl rfl)) (by intro _; rfl)) (eCalK0 C_readrun (fit_tr Ft pn xe) (by decide) rfl kw_readrun_0_value (rkCons (eName 0 rfl (.inl rfl)) rkNil) rfl rfl rfl) (eCal C_readrun (fit_tr Ft pn xe) (by decide) rfl (rCons (eName 0 rfl (.inl rfl)) rNil rfl))) rNil rfl)))
    rSkip))
    (fun W pn xe tk po => (xSeq (rRet (rLst (c := false) (rCons (rIf (tVal (eName 1 rfl (.inl rfl)) (by intro _; rfl)) (eCalK0 C_readrun (fit_tr Ft pn xe) (by decide) rfl kw_readrun_0_value (rkCons (eName 0 rfl (.inl rfl)) rkNil) rfl rfl rfl) (eCal C_readrun (fit_tr Ft pn xe) (by decide) rfl (rCons (eName 0 rfl (.inl rfl)) rNil rfl))) rNil rfl))) (xRet (xLst (xHd (fs := dNil) (xIf (tVal (eName 1 rfl (.inl rfl)) (by intro _; rfl)) (xCalK0 CX_readrun (fit_tr Ft pn xe) (by decide) tk rfl kw_readrun_0_value (rkCons (eName 0 rfl (.inl rfl)) rkNil) rfl rfl rfl) (xCal CX_readrun (fit_tr Ft pn xe) (by decide) tk rfl (rCons (eName 0 rfl (.inl rfl)) rNil rfl))) rNil rfl)))
    (xNoSs (d := dSkip) rSkip)))
    (fun a oe cls dx pn hz hf => (uRe (uLi (uCo (uD eStr) (uCo (uFl (i := 2) (cn := "BadText") g_BadText xf_BadText no_BadText_place hz hf rfl (.inl rfl) (by decide) (by decide) rfl) (uCo (uIs (i := 2) (cn := "BadText") (dn := "BowError") g_BadText xc_BadText hz hf g_BowError ki_BadText_BowError rfl m_isinstance rfl (by decide) rfl (.inl rfl) (by decide) (by decide) rfl rfl rfl) uNil rfl) rfl) rfl)))))
    rSkip)
abbrev s_lawisright : Stmt := topS 16
theorem sc_lawisright : FnScope ["thing", "is_named", "due"] ["thing", "is_named"] (defScope s_lawisright) := ⟨rfl, rfl, rfl, by decide +kernel, rfl, by decide +kernel, by decide +kernel⟩
def d_lawisright : DS :=
    (dSeq (dAsg (dCallF 1 (dCons (dVar 0) dNil) fn_lawread) (dgName 2))
    (dSeq (dRet (dBin (opEq false) (dCall opRepr (dCons (dLst false (dCons (dCallF 2 (dCons (dVar 0) (dCons (dVar 1) dNil)) fn_lawheard) (dCons (dCallF 2 (dCons (dVar 0) (dCons (dCon (.bl false)) dNil)) fn_lawheard) dNil))) dNil)) (dCall opRepr (dCons (dLst false (dCons (dVar 2) (dCons (dVar 2) dNil))) dNil))))
    dSkip))
def fn_lawisright : DF := dDef 3 d_lawisright
theorem ok_lawisright {P : Program} {w : World} {K : PySem.W.Frag} {mg : Str → Option Value} {base : Heap} {T : List Addr} (m_repr : mg "repr" = none) (C_lawheard : Cal P w K mg base T 4 "_law_heard" s_lawheard ["thing", "is_named"] fn_lawheard) (C_lawread : Cal P w K mg base T 1 "_law_read" s_lawread ["thing"] fn_lawread) {f : Addr} (cdv : Value) (A : Around) (outer : List Env) (s : Shared) (H : Hp) (E : XK) (hA : Clr A) (hR : Room 4 (A.deeper (envOfC "_law_is_right" (defScope s_lawisright) s.heap.objs.size f cdv))) :
    PSs (cxOf (L2.CX P w) P w K mg base ["thing", "is_named", "due"] "_law_is_right" (defScope s_lawisright) f cdv A outer s H E) (defBody s_lawisright) (sD K T d_lawisright) := by
  have Ft : Fit (cxOf (L2.CX P w) P w K mg base ["thing", "is_named", "due"] "_law_is_right" (defScope s_lawisright) f cdv A outer s H E) 4 := fit_cx sc_lawisright hA hR
  exact (rSeq (sSet 2 Ft.nd rfl (.inl rfl) (eCal C_lawread Ft (by decide) rfl (rCons (eName 0 rfl (.inl rfl)) rNil rfl)) rfl (.inl rfl))
    (rSeq (rRet (eEq Ft (eRepr Ft m_repr rfl (rCons (rLst (c := false) (rCons (eCal C_lawheard Ft (by decide) rfl (rCons (eName 0 rfl (.inl rfl)) (rCons (eName 1 rfl (.inl rfl)) rNil rfl) rfl)) (rCons (eCal C_lawheard Ft (by decide) rfl (rCons (eName 0 rfl (.inl rfl)) (rCons eBl rNil rfl) rfl)) rNil rfl) rfl)) rNil rfl)) (eRepr Ft m_repr rfl (rCons (rLst (c := false) (rCons (eName 2 rfl (.inl rfl)) (rCons (eName 2 rfl (.inl rfl)) rNil rfl) rfl)) rNil rfl))))
    rSkip))
abbrev s_lawprintable : Stmt := topS 17
theorem sc_lawprintable : FnScope [] [] (defScope s_lawprintable) := ⟨rfl, rfl, rfl, by decide +kernel, rfl, by decide +kernel, by decide +kernel⟩
def d_lawprintable : DS :=
    (dSeq (dRet (dCon (.str (" !\"#$&'()*+,-./0123456789:;<=>?@ABCDEFGHIJKLMNOPQRSTUVWXYZ[\\]^_`abcdefghijklmnopqrstuvwxyz{|}~" : Str))))
    dSkip)
def fn_lawprintable : DF := dDef 0 d_lawprintable
theorem ok_lawprintable {P : Program} {w : World} {K : PySem.W.Frag} {mg : Str → Option Value} {base : Heap} {T : List Addr} {f : Addr} (cdv : Value) (A : Around) (outer : List Env) (s : Shared) (H : Hp) (E : XK) (hA : Clr A) (hR : Room 0 (A.deeper (envOfC "_law_printable" (defScope s_lawprintable) s.heap.objs.size f cdv))) :
    PSs (cxOf (L2.CX P w) P w K mg base [] "_law_printable" (defScope s_lawprintable) f cdv A outer s H E) (defBody s_lawprintable) (sD K T d_lawprintable) := by
  have Ft : Fit (cxOf (L2.CX P w) P w K mg base [] "_law_printable" (defScope s_lawprintable) f cdv A outer s H E) 0 := fit_cx sc_lawprintable hA hR
  exact (rSeq (rRet eStr)
    rSkip)
abbrev s_lawbent : Stmt := topS 18
theorem sc_lawbent : FnScope ["bag", "text", "way", "spot", "fresh"] ["bag", "text"] (defScope s_lawbent) := ⟨rfl, rfl, rfl, by decide +kernel, rfl, by decide +kernel, by decide +kernel⟩
def d_lawbent : DS :=
    (dSeq (dPar 2 3 (dCons (dCallF 2 (dCons (dVar 0) (dCons (dCon (.int 3)) dNil)) fn_lawdraw) (dCons (dCallF 2 (dCons (dVar 0) (dCons (dBin (opAdd false) (dCall opLen (dCons (dVar 1) dNil)) (dCon (.int 1))) dNil)) fn_lawdraw) dNil)))
    (dSeq (dAsg (dCallF 2 (dCons (dVar 0) (dCons (dLst false (dCons (dCon (.str ("6" : Str))) (dCons (dCon (.str ("7" : Str))) (dCons (dCon (.str ("9" : Str))) (dCons (dCon (.str (" " : Str))) (dCons (dCon (.str ("-" : Str))) (dCons (dCon (.str ("\n" : Str))) (dCons (dCon (.str ("" : Str))) (dCons (dCon (.str ("0" : Str))) (dCons (dCon (.str ("5" : Str))) (dCons (dCallF 2 (dCons (dVar 0) (dCons (dCallF 0 dNil fn_lawprintable) dNil)) fn_lawpick) dNil))))))))))) dNil)) fn_lawpick) (dgName 4))
    (dSeq (dRet (dBin (opAdd false) (dBin (opAdd false) (dSlS (dVar 1) doNone (doSome (dVar 3))) (dIf (dCmpT (opCmp fun i j => decide (j < i)) (dVar 2) (dCon (.int 0))) (dVar 4) (dCon (.str ("" : Str))))) (dSlS (dVar 1) (doSome (dBin (opAdd false) (dVar 3) (dCall opInt (dCons (dBin (opEq true) (dVar 2) (dCon (.int 1))) dNil)))) doNone)))
    dSkip)))
def fn_lawbent : DF := dDef 5 d_lawbent
theorem ok_lawbent {P : Program} {w : World} {K : PySem.W.Frag} {mg : Str → Option Value} {base : Heap} {T : List Addr} (m_int : mg "int" = none) (m_len : mg "len" = none) (C_lawpick : Cal P w K mg base T 2 "_law_pick" s_lawpick ["bag", "some"] fn_lawpick) (C_lawprintable : Cal P w K mg base T 1 "_law_printable" s_lawprintable [] fn_lawprintable) (C_lawdraw : Cal P w K mg base T 1 "_law_draw" s_lawdraw ["bag", "size"] fn_lawdraw) {f : Addr} (cdv : Value) (A : Around) (outer : List Env) (s : Shared) (H : Hp) (E : XK) (hA : Clr A) (hR : Room 2 (A.deeper (envOfC "_law_bent" (defScope s_lawbent) s.heap.objs.size f cdv))) :
    PSs (cxOf (L2.CX P w) P w K mg base ["bag", "text", "way", "spot", "fresh"] "_law_bent" (defScope s_lawbent) f cdv A outer s H E) (defBody s_lawbent) (sD K T d_lawbent) := by
  have Ft : Fit (cxOf (L2.CX P w) P w K mg base ["bag", "text", "way", "spot", "fresh"] "_law_bent" (defScope s_lawbent) f cdv A outer s H E) 2 := fit_cx sc_lawbent hA hR
  exact (rSeq (sPar 2 3 Ft.calm Ft.nd rfl rfl (by decide) rfl rfl (rCons (eCal C_lawdraw Ft (by decide) rfl (rCons (eName 0 rfl (.inl rfl)) (rCons eInt rNil rfl) rfl)) (rCons (eCal C_lawdraw Ft (by decide) rfl (rCons (eName 0 rfl (.inl rfl)) (rCons (eAdd false (eLen m_len rfl (rCons (eName 1 rfl (.inl rfl)) rNil rfl)) eInt) rNil rfl) rfl)) rNil rfl) rfl) rfl rfl)
    (rSeq (sSet 4 Ft.nd rfl (.inl rfl) (eCal C_lawpick Ft (by decide) rfl (rCons (eName 0 rfl (.inl rfl)) (rCons (rLst (c := false) (rCons eStr (rCons eStr (rCons eStr (rCons eStr (rCons eStr (rCons eStr (rCons eStr (rCons eStr (rCons eStr (rCons (eCal C_lawpick Ft (by decide) rfl (rCons (eName 0 rfl (.inl rfl)) (rCons (eCal0 C_lawprintable Ft (by decide) rfl) rNil rfl) rfl)) rNil rfl) rfl) rfl) rfl) rfl) rfl) rfl) rfl) rfl) rfl)) rNil rfl) rfl)) rfl (.inl rfl))
    (rSeq (rRet (eAdd false (eAdd false (rSlS' (eName 1 rfl (.inl rfl)) roNone (roSome (eName 3 rfl (.inl rfl)))) (rIf (tGt (eName 2 rfl (.inl rfl)) eInt) (eName 4 rfl (.inl rfl)) eStr)) (rSlS' (eName 1 rfl (.inl rfl)) (roSome (eAdd false (eName 3 rfl (.inl rfl)) (eIntOf m_int rfl (rCons (eNe Ft (eName 2 rfl (.inl rfl)) eInt) rNil rfl)))) roNone)))
    rSkip)))
abbrev s_law : Stmt := topS 19
theorem sc_law : FnScope ["script", "bag", "turn", "moves", "more", "stood", "text", "told", "bent", "thing", "figures", "spot", "odd", "step_no", "who"] ["script"] (defScope s_law) := ⟨rfl, rfl, rfl, by decide +kernel, rfl, by decide +kernel, by decide +kernel⟩
def d_law : DS :=
    (dSeq (dAsg (dCallF 1 (dCons (dVar 0) dNil) fn_lawbag) (dgName 1))
    (dSeq (dFor (dRng1 (dCons (dCon (.int 10)) dNil)) (dgName 2)
    (dSeq (dAsg (dCall opTuple (dCons (dLc false [13] (dRng1 (dCons (dCallF 2 (dCons (dVar 1) (dCons (dLst false (dCons (dCon (.int 0)) (dCons (dCon (.int 1)) (dCons (dCon (.int 3)) (dCons (dCon (.int 8)) (dCons (dCon (.int 30)) dNil)))))) dNil)) fn_lawpick) dNil)) (dgName 13) dYes (dCallF 2 (dCons (dVar 1) (dCons (dCon (.int 6)) dNil)) fn_lawdraw)) dNil)) (dgName 3))
    (dSeq (dAsg (dBin (opAdd false) (dSlG false (dVar 3) doNone (doSome (dUn opNeg (dCon (.int 1))))) (dTup (dCons (dCallF 2 (dCons (dVar 1) (dCons (dCon (.int 6)) dNil)) fn_lawdraw) dNil))) (dgName 4))
    (dSeq (dPar 5 6 (dCons (dCall opRepr (dCons (dVar 3) dNil)) (dCons (dJoin (dCon (.str ("" : Str))) (dLc false [14] (dSeqI (dVar 3)) (dgName 14) dYes (dCall opStrI (dCons (dVar 14) dNil)))) dNil)))
    (dSeq (dAsg (dLst false (dCons (dCallW 1 0 1 [0] dNone (dkCons (dVar 3) dNone) fn_runtext) (dCons (dCallF 1 (dCons (dVar 3) dNil) fn_runtext) (dCons (dCallF 1 (dCons (dVar 4) dNil) fn_runtext) dNil)))) (dgName 7))
    (dSeq (dIte (dOr (dCmpT (opEq true) (dSlG false (dVar 7) doNone (doSome (dCon (.int 2)))) (dLst false (dCons (dVar 6) (dCons (dVar 6) dNil)))) (dCmpT (opEq true) (dBin (opEq false) (dBin opIx (dVar 7) (dCon (.int 2))) (dVar 6)) (dBin (opEq false) (dVar 4) (dVar 3))))
    (dSeq (dRet (dCon (.bl false)))
    dSkip) dSkip)
    (dSeq (dIte (dOr (dCmpT (opEq true) (dCall opRepr (dCons (dCallF 1 (dCons (dBin opIx (dVar 7) (dCon (.int 0))) dNil) fn_readrun) dNil)) (dVar 5)) (dNot (dTst (dCallF 2 (dCons (dVar 6) (dCons (dBin (opEq false) (dVar 2) (dCon (.int 1))) dNil)) fn_lawisright))))
    (dSeq (dRet (dCon (.bl false)))
    dSkip) dSkip)
    (dSeq (dAsg (dCallF 2 (dCons (dVar 1) (dCons (dVar 6) dNil)) fn_lawbent) (dgName 8))
    (dSeq (dFor (dSeqI (dTup (dCons (dVar 8) (dCons (dCallF 2 (dCons (dVar 1) (dCons (dVar 8) dNil)) fn_lawbent) (dCons (dCallF 2 (dCons (dVar 1) (dCons (dLst false (dCons (dCon .non) (dCons (dCon (.bl true)) (dCons (dCon (.int 0)) (dCons (dVar 3) (dCons (dLst false (dCons (dCon (.str ("0" : Str))) dNil)) (dCons (dCon (.str ("" : Str))) (dCons (dCon (.str ("0 1" : Str))) (dCons (dCon (.str ("01\n" : Str))) dNil))))))))) dNil)) fn_lawpick) dNil))))) (dgName 9)
    (dSeq (dIte (dNot (dTst (dCallF 2 (dCons (dVar 9) (dCons (dBin (opEq false) (dVar 2) (dCon (.int 2))) dNil)) fn_lawisright)))
    (dSeq (dRet (dCon (.bl false)))
    dSkip) dSkip)
    dSkip))
    (dSeq (dIte (dCmpT (opEq true) (dCall opRepr (dCons (dVar 3) dNil)) (dVar 5))
    (dSeq (dRet (dCon (.bl false)))
    dSkip) dSkip)
    dSkip))))))))))
    (dSeq (dIte (dCmpT (opEq false) (dCallF 2 (dCons (dVar 1) (dCons (dCon (.int 6)) dNil)) fn_lawdraw) (dCon (.int 0)))
    (dSeq (dAsg (dBin opMulS (dCall opStrI (dCons (dCallF 2 (dCons (dVar 1) (dCons (dCon (.int 6)) dNil)) fn_lawdraw) dNil)) (dCallF 2 (dCons (dVar 1) (dCons (dLst false (dCons (dCon (.int 899)) (dCons (dCon (.int 900)) (dCons (dCon (.int 901)) (dCons (dCon (.int 1100)) dNil))))) dNil)) fn_lawpick)) (dgName 10))
    (dSeq (dAsg (dCallF 2 (dCons (dVar 1) (dCons (dCall opLen (dCons (dVar 10) dNil)) dNil)) fn_lawdraw) (dgName 11))
    (dSeq (dAsg (dBin (opAdd false) (dBin (opAdd false) (dSlS (dVar 10) doNone (doSome (dVar 11))) (dCallF 2 (dCons (dVar 1) (dCons (dLst false (dCons (dCon (.str ("6" : Str))) (dCons (dCon (.str ("x" : Str))) (dCons (dCon (.str ("0" : Str))) dNil)))) dNil)) fn_lawpick)) (dSlS (dVar 10) (doSome (dBin (opAdd false) (dVar 11) (dCon (.int 1)))) doNone)) (dgName 12))
    (dSeq (dRet (dAndV (dCallF 2 (dCons (dVar 10) (dCons (dCon (.bl false)) dNil)) fn_lawisright) (dAndV (dCallF 2 (dCons (dVar 12) (dCons (dCon (.bl true)) dNil)) fn_lawisright) (dBin (opEq false) (dCallF 1 (dCons (dBin (opMulA false) (dTup (dCons (dCon (.int 3)) dNil)) (dCon (.int 900))) dNil) fn_runtext) (dBin opMulS (dCon (.str ("3" : Str))) (dCon (.int 900)))))))
    dSkip)))) dSkip)
    (dSeq (dRet (dCon (.bl true)))
    dSkip))))
def fn_law : DF := dDef 15 d_law
theorem kw_runtext_0_run : KwOk "run_text" s_runtext ["run"] ["run"] 0 [0] := fun _ _ _ _ _ _ us ws h1 h2 => match us, ws, h1, h2 with | [], [_], _, _ => rfl
theorem ok_law {P : Program} {w : World} {K : PySem.W.Frag} {mg : Str → Option Value} {base : Heap} {T : List Addr} (m_len : mg "len" = none) (m_range : mg "range" = none) (m_repr : mg "repr" = none) (m_str : mg "str" = none) (m_tuple : mg "tuple" = none) (C_lawdraw : Cal P w K mg base T 1 "_law_draw" s_lawdraw ["bag", "size"] fn_lawdraw) (C_lawisright : Cal P w K mg base T 5 "_law_is_right" s_lawisright ["thing", "is_named"] fn_lawisright) (C_runtext : Cal P w K mg base T 1 "run_text" s_runtext ["run"] fn_runtext) (C_lawpick : Cal P w K mg base T 2 "_law_pick" s_lawpick ["bag", "some"] fn_lawpick) (C_lawbent : Cal P w K mg base T 3 "_law_bent" s_lawbent ["bag", "text"] fn_lawbent) (C_readrun : Cal P w K mg base T 3 "read_run" s_readrun ["value"] fn_readrun) (C_lawbag : Cal P w K mg base T 1 "_law_bag" s_lawbag ["script"] fn_lawbag) {f : Addr} (cdv : Value) (A : Around) (outer : List Env) (s : Shared) (H : Hp) (E : XK) (hA : Clr A) (hR : Room 5 (A.deeper (envOfC "law" (defScope s_law) s.heap.objs.size f cdv))) :
    PSs (cxOf (L2.CX P w) P w K mg base ["script", "bag", "turn", "moves", "more", "stood", "text", "told", "bent", "thing", "figures", "spot", "odd", "step_no", "who"] "law" (defScope s_law) f cdv A outer s H E) (defBody s_law) (sD K T d_law) := by
  have Ft : Fit (cxOf (L2.CX P w) P w K mg base ["script", "bag", "turn", "moves", "more", "stood", "text", "told", "bent", "thing", "figures", "spot", "odd", "step_no", "who"] "law" (defScope s_law) f cdv A outer s H E) 5 := fit_cx sc_law hA hR
  exact (rSeq (sSet 1 Ft.nd rfl (.inr rfl) (eCal C_lawbag Ft (by decide) rfl (rCons (eName 0 rfl (.inl rfl)) rNil rfl)) rfl (.inl rfl))
    (rSeq (sFor (I := [2]) (passes_of rfl) rfl (iRng1' m_range rfl (rCons eInt rNil rfl) rfl) (gName' 2 (by decide) Ft.nd rfl (.inl rfl) (.inr rfl))
    (rSeq (sSet 3 Ft.nd rfl (.inl rfl) (eTupOf m_tuple rfl (rCons (rLc (c := false) Ft.calm Ft.nd (iRng1' m_range rfl (rCons (eCal C_lawpick Ft (by decide) rfl (rCons (eName 1 rfl (.inr (.inl rfl))) (rCons (rLst (c := false) (rCons eInt (rCons eInt (rCons eInt (rCons eInt (rCons eInt rNil rfl) rfl) rfl) rfl) rfl)) rNil rfl) rfl)) rNil rfl) rfl) (own := [("step_no", 13)]) (blk_by (by exact rfl)) (fun _ _ _ _ _ => (gName' 13 (by decide) (fit_blk Ft _ _ _ _ _).nd rfl (.inl rfl) (.inr rfl))) (fun _ _ _ _ _ => rtNil) (fun _ _ _ _ _ => (eCal C_lawdraw (fit_blk Ft _ _ _ _ _) (by decide) rfl (rCons (eName 1 rfl (.inr (.inl rfl))) (rCons eInt rNil rfl) rfl)))) rNil rfl)) rfl (.inl rfl))
    (rSeq (sSet 4 Ft.nd rfl (.inl rfl) (eAdd false (rSlG (c := false) (eName 3 rfl (.inl rfl)) roNone (roSome (eNeg eInt))) (rTup (rCons (eCal C_lawdraw Ft (by decide) rfl (rCons (eName 1 rfl (.inr (.inl rfl))) (rCons eInt rNil rfl) rfl)) rNil rfl))) rfl (.inl rfl))
    (rSeq (sPar 5 6 Ft.calm Ft.nd rfl rfl (by decide) rfl rfl (rCons (eRepr Ft m_repr rfl (rCons (eName 3 rfl (.inl rfl)) rNil rfl)) (rCons (eJoin eStr (rLc (c := false) Ft.calm Ft.nd (iSeq (eName 3 rfl (.inl rfl))) (own := [("who", 14)]) (blk_by (by exact rfl)) (fun _ _ _ _ _ => (gName' 14 (by decide) (fit_blk Ft _ _ _ _ _).nd rfl (.inl rfl) (.inr rfl))) (fun _ _ _ _ _ => rtNil) (fun _ _ _ _ _ => (eStrI m_str rfl (rCons (eName 14 rfl (.inl rfl)) rNil rfl))))) rNil rfl) rfl) rfl rfl)
    (rSeq (sSet 7 Ft.nd rfl (.inl rfl) (rLst (c := false) (rCons (eCalK0 C_runtext Ft (by decide) rfl kw_runtext_0_run (rkCons (eName 3 rfl (.inl rfl)) rkNil) rfl rfl rfl) (rCons (eCal C_runtext Ft (by decide) rfl (rCons (eName 3 rfl (.inl rfl)) rNil rfl)) (rCons (eCal C_runtext Ft (by decide) rfl (rCons (eName 4 rfl (.inl rfl)) rNil rfl)) rNil rfl) rfl) rfl)) rfl (.inl rfl))
    (rSeq (rIte (PW.pt (wOr (tNe Ft (rSlG (c := false) (eName 7 rfl (.inl rfl)) roNone (roSome eInt)) (rLst (c := false) (rCons (eName 6 rfl (.inl rfl)) (rCons (eName 6 rfl (.inl rfl)) rNil rfl) rfl))) (wOr1 (tNe Ft (eEq Ft (eIx Ft (eName 7 rfl (.inl rfl)) eInt (fun _ _ => rfl)) (eName 6 rfl (.inl rfl))) (eEq Ft (eName 4 rfl (.inl rfl)) (eName 3 rfl (.inl rfl)))))))
    (rSeq (rRet eBl)
    rSkip) rSkip)
    (rSeq (rIte (PW.pt (wOr (tNe Ft (eRepr Ft m_repr rfl (rCons (eCal C_readrun Ft (by decide) rfl (rCons (eIx Ft (eName 7 rfl (.inl rfl)) eInt (fun _ _ => rfl)) rNil rfl)) rNil rfl)) (eName 5 rfl (.inl rfl))) (wOr1 (rNot (tVal (eCal C_lawisright Ft (by decide) rfl (rCons (eName 6 rfl (.inl rfl)) (rCons (eEq Ft (eName 2 rfl (.inl rfl)) eInt) rNil rfl) rfl)) (by intro _; rfl))))))
    (rSeq (rRet eBl)
    rSkip) rSkip)
    (rSeq (sSet 8 Ft.nd rfl (.inl rfl) (eCal C_lawbent Ft (by decide) rfl (rCons (eName 1 rfl (.inr (.inl rfl))) (rCons (eName 6 rfl (.inl rfl)) rNil rfl) rfl)) rfl (.inl rfl))
    (rSeq (sFor (I := [9]) (passes_of rfl) rfl (iSeq (rTup (rCons (eName 8 rfl (.inl rfl)) (rCons (eCal C_lawbent Ft (by decide) rfl (rCons (eName 1 rfl (.inr (.inl rfl))) (rCons (eName 8 rfl (.inl rfl)) rNil rfl) rfl)) (rCons (eCal C_lawpick Ft (by decide) rfl (rCons (eName 1 rfl (.inr (.inl rfl))) (rCons (rLst (c := false) (rCons eNon (rCons eBl (rCons eInt (rCons (eName 3 rfl (.inl rfl)) (rCons (rLst (c := false) (rCons eStr rNil rfl)) (rCons eStr (rCons eStr (rCons eStr rNil rfl) rfl) rfl) rfl) rfl) rfl) rfl) rfl)) rNil rfl) rfl)) rNil rfl) rfl) rfl))) (gName' 9 (by decide) Ft.nd rfl (.inl rfl) (.inr rfl))
    (rSeq (rIte (rNot (tVal (eCal C_lawisright Ft (by decide) rfl (rCons (eName 9 rfl (.inl rfl)) (rCons (eEq Ft (eName 2 rfl (.inl rfl)) eInt) rNil rfl) rfl)) (by intro _; rfl)))
    (rSeq (rRet eBl)
    rSkip) rSkip)
    rSkip) (fun _ => rfl))
    (rSeq (rIte (tNe Ft (eRepr Ft m_repr rfl (rCons (eName 3 rfl (.inl rfl)) rNil rfl)) (eName 5 rfl (.inl rfl)))
    (rSeq (rRet eBl)
    rSkip) rSkip)
    rSkip))))))))) (fun _ => rfl))
    (rSeq (rIte (tEq Ft (eCal C_lawdraw Ft (by decide) rfl (rCons (eName 1 rfl (.inr (.inl rfl))) (rCons eInt rNil rfl) rfl)) eInt)
    (rSeq (sSet 10 Ft.nd rfl (.inl rfl) (eMulS (eStrI m_str rfl (rCons (eCal C_lawdraw Ft (by decide) rfl (rCons (eName 1 rfl (.inr (.inl rfl))) (rCons eInt rNil rfl) rfl)) rNil rfl)) (eCal C_lawpick Ft (by decide) rfl (rCons (eName 1 rfl (.inr (.inl rfl))) (rCons (rLst (c := false) (rCons eInt (rCons eInt (rCons eInt (rCons eInt rNil rfl) rfl) rfl) rfl)) rNil rfl) rfl))) rfl (.inl rfl))
    (rSeq (sSet 11 Ft.nd rfl (.inl rfl) (eCal C_lawdraw Ft (by decide) rfl (rCons (eName 1 rfl (.inr (.inl rfl))) (rCons (eLen m_len rfl (rCons (eName 10 rfl (.inl rfl)) rNil rfl)) rNil rfl) rfl)) rfl (.inl rfl))
    (rSeq (sSet 12 Ft.nd rfl (.inl rfl) (eAdd false (eAdd false (rSlS' (eName 10 rfl (.inl rfl)) roNone (roSome (eName 11 rfl (.inl rfl)))) (eCal C_lawpick Ft (by decide) rfl (rCons (eName 1 rfl (.inr (.inl rfl))) (rCons (rLst (c := false) (rCons eStr (rCons eStr (rCons eStr rNil rfl) rfl) rfl)) rNil rfl) rfl))) (rSlS' (eName 10 rfl (.inl rfl)) (roSome (eAdd false (eName 11 rfl (.inl rfl)) eInt)) roNone)) rfl (.inl rfl))
    (rSeq (rRet (rAndV (eCal C_lawisright Ft (by decide) rfl (rCons (eName 10 rfl (.inl rfl)) (rCons eBl rNil rfl) rfl)) (rAndV (eCal C_lawisright Ft (by decide) rfl (rCons (eName 12 rfl (.inl rfl)) (rCons eBl rNil rfl) rfl)) (pe_one (eEq Ft (eCal C_runtext Ft (by decide) rfl (rCons (eMulA false (rTup (rCons eInt rNil rfl)) eInt) rNil rfl)) (eMulS eStr eInt))))))
    rSkip)))) rSkip)
    (rSeq (rRet eBl)
    rSkip))))
end Vk
set_option maxRecDepth 100000
set_option maxHeartbeats 4000000
namespace Vw
open PySem PySem.Spec L2
theorem filter_yes {α : Type} (l : List α) : l.filter (fun _ => true) = l := List.filter_eq_self.mpr fun _ _ => rfl
section
variable {α : Type} {g : DG} {S S0 : Sto}
theorem lc_loop {src : Src} {t : DT} {f : DE} {G : Gam} {l : List α} {e : α → D} (hsrc : ∀ i, src i S = some (l.map e)[i]?) (p : α → Bool) (h : α → D)
    (step : ∀ x ∈ l, ∃ G1, g (e x) G S = some (G1, S) ∧ t G1 S = some (p x, S) ∧ (p x = true → f G1 S = some (h x, S))) :
    dLcLoop src g t f G (l.length + 1) 0 S [] = some ((l.filter p).map h, S) := by
  obtain ⟨out, S', e1, rfl, rfl⟩ := lc_inv (src := src) (g := g) (t := t) (f := f) (G := G) (ds := l.map e) (fun i S' acc => S' = S ∧ acc = ((l.take i).filter p).map h) (fun i S' acc hI => by rw [hI.1]; exact hsrc i)
    (fun i S' acc d hd hI => by
      obtain ⟨rfl, rfl⟩ := hI
      rw [List.getElem?_map] at hd
      obtain ⟨x, hx, rfl⟩ := Option.map_eq_some_iff.mp hd
      obtain ⟨G1, s1, s2, s3⟩ := step x (List.mem_of_getElem? hx)
      have ht : l.take (i + 1) = l.take i ++ [x] := by rw [List.take_add_one, hx]; rfl
      refine ⟨G1, S', p x, S', s1, s2, fun hp => ⟨h x, S', s3 hp, rfl, ?_⟩, fun hp => ⟨rfl, ?_⟩⟩
      · rw [ht, List.filter_append, List.map_append]; simp [hp]
      · rw [ht, List.filter_append, List.map_append]; simp [hp]) l.length 0 S [] (by rw [List.length_map]; omega) ⟨rfl, by simp⟩
  rw [List.length_map, List.take_length] at e1
  exact e1
theorem lc_pure {c : Bool} {own : List Nat} {w : DI} {src : Src} {n : Nat} {t : DT} {f : DE} {G : Gam} {l : List α} {e : α → D} (hw : w G S0 = some (src, n, S)) (hn : n = l.length + 1) (hsrc : ∀ i, src i S = some (l.map e)[i]?) (p : α → Bool) (h : α → D)
    (step : ∀ x ∈ l, ∃ G1, g (e x) (wipeG G own) S = some (G1, S) ∧ t G1 S = some (p x, S) ∧ (p x = true → f G1 S = some (h x, S))) :
    dLc c own w g t f G S0 = okLst c ((l.filter p).map h) S := by
  subst hn
  exact dLc_of hw (lc_loop hsrc p h step)
/-- no test -/
theorem lc_pureY {c : Bool} {own : List Nat} {w : DI} {src : Src} {n : Nat} {f : DE} {G : Gam} {l : List α} {e : α → D} (hw : w G S0 = some (src, n, S)) (hn : n = l.length + 1) (hsrc : ∀ i, src i S = some (l.map e)[i]?) (h : α → D)
    (step : ∀ x ∈ l, ∃ G1, g (e x) (wipeG G own) S = some (G1, S) ∧ f G1 S = some (h x, S)) :
    dLc c own w g dYes f G S0 = okLst c (l.map h) S := by
  have := lc_pure (c := c) (own := own) (t := dYes) hw hn hsrc (fun _ => true) h fun x hx => by
    obtain ⟨G1, a, b⟩ := step x hx
    exact ⟨G1, a, rfl, fun _ => b⟩
  rwa [filter_yes] at this
end
theorem fix_src {S : Sto} {ds : List D} : ∀ i, fixS ds i S = some ds[i]? := fun _ => rfl
theorem dMeth_of {t : String} {op : OpM} {fo : DE} {fa : DA} {G : Gam} {S S1 S2 : Sto} {x : D} {ds : List D} {r : Option (D × Sto)} (h1 : fo G S = some (x, S1)) (ht : tyD t S1 x = true) (h2 : fa G S1 = some (ds, S2)) (h3 : op x ds S2 = r) : dMeth t op fo fa G S = r := by
  unfold dMeth
  simp only [h1, Option.bind_some, ht, if_true, h2, h3]
theorem dIf_t {t : DT} {f g : DE} {G : Gam} {S S1 : Sto} (h : t G S = some (true, S1)) : dIf t f g G S = f G S1 := by
  unfold dIf
  simp only [h, Option.bind_some, if_true]
theorem dIf_f {t : DT} {f g : DE} {G : Gam} {S S1 : Sto} (h : t G S = some (false, S1)) : dIf t f g G S = g G S1 := by
  unfold dIf
  simp only [h, Option.bind_some, Bool.false_eq_true, if_false]
theorem dOr_of {a b : DT} {G : Gam} {S : Sto} {x y : Bool} (h1 : a G S = some (x, S)) (h2 : b G S = some (y, S)) : dOr a b G S = some (x || y, S) := by
  unfold dOr
  simp only [h1, Option.bind_some]
  cases x
  · exact h2
  · rfl
theorem in_strs {neg : Bool} {w : Str} {l : List Str} {S : Sto} : opIn neg (.str w) (.tup (l.map D.str)) S = some (.bl (if neg then !(decide (w ∈ l)) else decide (w ∈ l)), S) := by
  have h1 : ∀ e : List Str, (e.map D.str).all flatD = true := fun e => by
    induction e with
    | nil => rfl
    | cons a e ih => exact ih
  have h2 : ∀ e : List Str, ((e.map D.str).any (eqF · (.str w))) = decide (w ∈ e) := fun e => by
    induction e with
    | nil => rfl
    | cons a e ih =>
      show ((a == w) || (e.map D.str).any (eqF · (.str w))) = _
      rw [ih]
      by_cases h : a = w
      · subst h; simp
      · have h' : ¬ w = a := fun x => h x.symm
        simp [h, h']
  unfold opIn inD
  show (((if flatD (.str w) && (l.map D.str).all flatD then some ((l.map D.str).any (eqF · (.str w))) else inP S (.str w) (.tup (l.map D.str)))).map _) = _
  rw [h1, h2]; rfl
theorem dFn_rt {n : Nat} {b : DS} {ds : List D} {S S' : Sto} {G' : Gam} {d : D} (h : b (ds.map some ++ List.replicate (n - ds.length) none) S = some (.rt d, G', S')) : dDef n b ds S = some (d, S') := by
  unfold dDef
  rw [h]; rfl
theorem dSeq_ite_f {t : DT} {f g h : DS} {G : Gam} {S S1 : Sto} (e : t G S = some (false, S1)) (hg : g = dSkip) : dSeq (dIte t f g) h G S = h G S1 := by
  subst hg
  exact dSeq_nx ((dIte_f e).trans rfl)
end Vw
set_option maxRecDepth 100000
set_option maxHeartbeats 4000000
namespace Vw
open PySem PySem.Spec L2
structure Sm (B : Nat) (p : PyData) : Prop where
  sh : p.showable = true
  nd : p.hasDict = false
  dp : p.depth ≤ 10
  ln : p.shown.length ≤ B
structure SmA (B : Nat) (ps : List PyData) : Prop where
  sh : PyData.showableAll ps = true
  nd : PyData.hasDictAll ps = false
  dp : PyData.depthAll ps ≤ 9
  ln : ∀ t ∈ PyData.shownAll ps, t.length ≤ B
  ct : (PyData.shownAll ps).length = ps.length
theorem smA_nil {B : Nat} : SmA B [] := ⟨rfl, rfl, by decide, (fun t h => by cases h), rfl⟩
theorem smA_cons {B : Nat} {p : PyData} {ps : List PyData} (h : Sm B p) (hd : p.depth ≤ 9) (t : SmA B ps) : SmA B (p :: ps) := by
  refine ⟨?_, ?_, ?_, fun z hz => ?_, ?_⟩
  · show (p.showable && PyData.showableAll ps) = true
    rw [h.sh, t.sh]; rfl
  · show (p.hasDict || PyData.hasDictAll ps) = false
    rw [h.nd, t.nd]; rfl
  · show max p.depth (PyData.depthAll ps) ≤ 9
    have := t.dp; omega
  · have hz : z ∈ p.shown :: PyData.shownAll ps := hz
    rcases List.mem_cons.mp hz with rfl | hz
    · exact h.ln
    · exact t.ln z hz
  · show (PyData.shownAll ps).length + 1 = _
    rw [t.ct]; rfl
theorem str_app_len (a b : Str) : (a ++ b).length = a.length + b.length := by
  show (a.cps ++ b.cps).size = _
  rw [Array.size_append]; rfl
theorem piled_le {B : Nat} : ∀ {ts : List Str}, (∀ t ∈ ts, t.length ≤ B) → piled ts ≤ ts.length * (B + 2)
  | [], _ => by simp [piled]
  | t :: ts, h => by
    have h1 := h t List.mem_cons_self
    have h2 := piled_le (ts := ts) fun x hx => h x (List.mem_cons_of_mem _ hx)
    have e : piled (t :: ts) = t.length + 2 + piled ts := piled_cons t ts
    rw [e, List.length_cons, Nat.succ_mul]
    omega
theorem tupleText_le {B : Nat} {ts : List Str} (h : ∀ t ∈ ts, t.length ≤ B) : (tupleText ts).length ≤ ts.length * (B + 2) + 3 := by
  have hp := piled_le h
  unfold tupleText
  rw [str_app_len, str_app_len]
  have h1 : (("(" : Str)).length = 1 := rfl
  have h3 : ((if ts.length == 1 then ",)" else ")" : String) : Str).length ≤ 2 := by split <;> decide
  have h2 : (Str.join ", " ts).length ≤ piled ts := by
    by_cases e : ts = []
    · subst e; decide
    · have := join_length_add ts e; omega
  omega
theorem sm_tuple {B n C : Nat} {ps : List PyData} (h : SmA B ps) (hn : ps.length ≤ n) (hC : n * (B + 2) + 3 ≤ C) (hd : PyData.depthAll ps ≤ 8) : Sm C (.tuple ps) ∧ (PyData.tuple ps).depth = PyData.depthAll ps + 1 := by
  refine ⟨⟨h.sh, h.nd, ?_, ?_⟩, rfl⟩
  · show PyData.depthAll ps + 1 ≤ 10
    omega
  · show (tupleText (PyData.shownAll ps)).length ≤ C
    have h1 := tupleText_le h.ln
    rw [h.ct] at h1
    have h2 : ps.length * (B + 2) ≤ n * (B + 2) := Nat.mul_le_mul_right _ hn
    omega
theorem sm_list2 {B : Nat} {p q : PyData} (hp : Sm B p) (hq : Sm B q) (h1 : p.depth ≤ 8) (h2 : q.depth ≤ 8) : Sm (2 * B + 10) (.list [p, q]) := by
  refine ⟨?_, ?_, ?_, ?_⟩
  · show (p.showable && (q.showable && true)) = true
    rw [hp.sh, hq.sh]; rfl
  · show (p.hasDict || (q.hasDict || false)) = false
    rw [hp.nd, hq.nd]; rfl
  · show max p.depth (max q.depth 0) + 1 ≤ 10
    omega
  · show (listText [p.shown, q.shown]).length ≤ _
    have e : listText [p.shown, q.shown] = ((("[" : Str) ++ ("" : Str) ++ p.shown) ++ (", " : Str) ++ q.shown) ++ ("]" : Str) := rfl
    rw [e]
    simp only [str_app_len]
    have := hp.ln
    have := hq.ln
    have a1 : (("[" : Str)).length = 1 := rfl
    have a2 : (("" : Str)).length = 0 := rfl
    have a3 : ((", " : Str)).length = 2 := rfl
    have a4 : (("]" : Str)).length = 1 := rfl
    omega
def six : List Str := ["-", "even", "stand", "bow", "pass", "slip"]
theorem Sm.mono {B C : Nat} {p : PyData} (h : Sm B p) (hb : B ≤ C) : Sm C p := ⟨h.sh, h.nd, h.dp, Nat.le_trans h.ln hb⟩
theorem repr_ok {S : Sto} {d : D} {p : PyData} (e : pyOf S d = some p) (h : Sm 900000 p) : opRepr [d] S = some (.str p.shown, S) := by
  show (pyOf S d).bind _ = _
  rw [e]
  show (if Vw.showable p = true then _ else _) = _
  have : Vw.showable p = true := by
    unfold Vw.showable
    rw [h.sh, h.nd]
    have h1 := h.dp
    have h2 := h.ln
    simp only [Bool.not_false, Bool.true_and, Bool.and_true, Bool.and_eq_true, decide_eq_true_eq]
    exact ⟨by omega, by show p.shown.length ≤ 1000000; omega⟩
  rw [if_pos this]
def SymE (k : Nat) (M : Nat → Nat → Str) : Prop := ∀ a b, a < k → b < k → M a b = wEven → M b a = wEven
structure Lk (k : Nat) (M : Nat → Nat → Str) (ws : List (List Int)) (es : List Int) : Prop where
  k10 : k ≤ 10
  ways : Ways k ws
  sym : SymE k M
  six : ∀ a b, a < k → b < k → M a b ∈ six
  esb : ∀ e ∈ es, 0 ≤ e ∧ e < 10
  esl : es.length ≤ 10
theorem others_mem {k i : Nat} {z : Int} (h : z ∈ others k i) : ∃ j : Nat, z = (j : Int) ∧ j < k ∧ j ≠ i := by
  unfold others at h
  obtain ⟨j, hj, rfl⟩ := List.mem_map.mp h
  obtain ⟨h1, h2⟩ := List.mem_filter.mp hj
  exact ⟨j, rfl, List.mem_range.mp h1, of_decide_eq_true h2⟩
theorem mem_others {k i j : Nat} (h : j < k) (hi : j ≠ i) : (j : Int) ∈ others k i :=
  List.mem_map.mpr ⟨j, List.mem_filter.mpr ⟨List.mem_range.mpr h, decide_eq_true hi⟩, rfl⟩
theorem ix_seq' {S : Sto} {x : D} {ds : List D} {r : Nat} {d : D} (h : seqD S x = some ds) (e : ds[r]? = some d) : opIx x (.int r) S = some (d, S) := by
  have hr := (List.getElem?_eq_some_iff.mp e)
  obtain ⟨hr, e⟩ := hr
  unfold opIx
  rw [h]
  show (atI ds (r : Int)).map _ = _
  rw [atI_nn hr, e]; rfl
section
variable {k : Nat} {M : Nat → Nat → Str} {ws : List (List Int)} {es : List Int} {S : Sto}
theorem eq_str {a b : Str} : opEq false (.str a) (.str b) S = some (.bl (decide (a = b)), S) := rfl
theorem ne_str {a b : Str} : opEq true (.str a) (.str b) S = some (.bl (!decide (a = b)), S) := rfl
end
def evL (M : Nat → Nat → Str) (w : List Int) (i : Nat) : List Int := w.filter fun j => decide (M i j.toNat = wEven)
theorem toPs_map {α : Type} {fl : Nat → Option PyData} {f : α → D} {g : α → PyData} : ∀ {l : List α}, (∀ x ∈ l, toP fl (f x) = some (g x)) → toPs fl (l.map f) = some (l.map g)
  | [], _ => rfl
  | x :: l, h => by
    show (toP fl (f x)).bind _ = _
    rw [h x List.mem_cons_self]
    show (toPs fl (l.map f)).map _ = _
    rw [toPs_map fun y hy => h y (List.mem_cons_of_mem _ hy)]; rfl
section
variable {k : Nat} {M : Nat → Nat → Str} {ws : List (List Int)} {es : List Int}
theorem Lk.way (L : Lk k M ws es) {i : Nat} (hi : i < k) : ∃ w, ws[i]? = some w := ⟨ws[i]'(by rw [L.ways.1]; exact hi), List.getElem?_eq_getElem _⟩
theorem Lk.ev_mem (L : Lk k M ws es) {i : Nat} {w : List Int} (hw : ws[i]? = some w) {z : Int} (h : z ∈ evL M w i) : ∃ j : Nat, z = (j : Int) ∧ j < k ∧ j ≠ i ∧ M i j = wEven := by
  obtain ⟨h1, h2⟩ := List.mem_filter.mp h
  obtain ⟨j, rfl, hj, hne⟩ := others_mem ((L.ways.2 i w hw).mem_iff.mp h1)
  exact ⟨j, rfl, hj, hne, of_decide_eq_true h2⟩
theorem Lk.ev_len (L : Lk k M ws es) {i : Nat} {w : List Int} (hw : ws[i]? = some w) : (evL M w i).length ≤ 10 := by
  have h1 : (evL M w i).length ≤ w.length := List.length_filter_le _ _
  have := (L.ways.2 i w hw).length_eq
  have := others_len k i
  have := L.k10
  omega
end
theorem repr2 {S : Sto} {x : D} {p : PyData} (e : ∀ fl, toP fl x = some p) (h : Sm 40000 p) (hd : p.depth ≤ 8) : opRepr [.lst [x, x]] S = some (.str (PyData.list [p, p]).shown, S) := by
  refine repr_ok ?_ ((sm_list2 h h hd hd).mono (by decide))
  show (toPs _ [x, x]).map _ = _
  show ((toP _ x).bind fun p => ((toP _ x).bind fun p => (some []).map (p :: ·)).map (p :: ·)).map _ = _
  rw [e]; rfl
end Vw
set_option maxRecDepth 100000
set_option maxHeartbeats 4000000
namespace Vw
open PySem PySem.Spec L2
def evRow (k : Nat) (M : Nat → Nat → Str) (i : Nat) : List (Nat × Nat) := ((List.range (k - (i + 1))).filter fun t => decide (M i (i + 1 + t) = wEven)).map fun t => (i, i + 1 + t)
def evUp (k : Nat) (M : Nat → Nat → Str) : List (Nat × Nat) := (List.range k).flatMap (evRow k M)
section
variable {k : Nat} {M : Nat → Nat → Str} {ws : List (List Int)} {es : List Int} {S : Sto}
abbrev wRest : Str := "rest"
abbrev restP : Str × Nat := (wRest, 0)
def kinds8 : List Str := ["rest", "wish", "in", "hand", "look", "yield", "low", "anew"]
structure St (k : Nat) (M : Nat → Nat → Str) (ps : List (Str × Nat)) (tk : List ((Nat × Nat) × Nat)) : Prop where
  len : ps.length = k
  pl : ∀ p ∈ ps, p.1 ∈ kinds8 ∧ p.2 < 10
  prs : tk.map (·.1) = evUp k M
  own : ∀ t ∈ tk, t.2 < 10
def upW : List Str := ["look", "yield", "in"]
def flagS (es : List Int) (w : Str) (i : Nat) : Str := if w ∈ upW then "up" else if w = ("hand" : Str) ∧ ¬ (i : Int) ∈ es then "half" else "down"
section
variable {ps : List (Str × Nat)} {tk : List ((Nat × Nat) × Nat)} {i : Nat} {p : Str × Nat}
def isTok (x y : Nat) (t : (Nat × Nat) × Nat) : Bool := decide (t.1.1 = x ∧ t.1.2 = y)
def hold (tk : List ((Nat × Nat) × Nat)) (x y : Nat) : List Int := (tk.filter (isTok x y)).map fun t => ((t.2 : Nat) : Int)
end
end
end Vw
set_option maxRecDepth 100000
set_option maxHeartbeats 4000000
namespace Vw
open PySem PySem.Spec L2
theorem set_last {S : Sto} {c c' : Cell} : (S ++ [c]).set S.length c' = S ++ [c'] := by
  rw [List.set_append_right _ _ (Nat.le_refl _), Nat.sub_self]; rfl
theorem get_last {S : Sto} {c : Cell} : (S ++ [c])[S.length]? = some c := by
  rw [List.getElem?_append_right (Nat.le_refl _), Nat.sub_self]; rfl
section
variable {k : Nat} {M : Nat → Nat → Str} {ws : List (List Int)} {es : List Int} {S : Sto}
abbrev pW (w : Str) (t : Nat) : Str × Nat := (w, t)
end
end Vw
set_option maxRecDepth 100000
set_option maxHeartbeats 4000000
namespace Vw
open PySem PySem.Spec L2
theorem dSeq_yes {t : DT} {f g h : DS} {G G' : Gam} {S S1 S2 : Sto} {b : Bool} {d : D} (e : t G S = some (b, S1)) (hb : b = true) (r : f G S1 = some (.rt d, G', S2)) : dSeq (dIte t f g) h G S = some (.rt d, G', S2) := by
  subst hb
  exact dSeq_rt ((dIte_t e).trans r)
theorem dSeq_no {t : DT} {f h : DS} {G : Gam} {S S1 : Sto} {b : Bool} (e : t G S = some (b, S1)) (hb : b = false) : dSeq (dIte t f dSkip) h G S = h G S1 := by
  subst hb
  exact dSeq_ite_f e rfl
theorem dRetS_of {f : DE} {h : DS} {d : D} {G : Gam} {S S1 : Sto} (e : f G S = some (d, S1)) : dSeq (dRet f) h G S = some (.rt d, G, S1) := dSeq_rt (dRet_of e)
section
variable {k : Nat} {M : Nat → Nat → Str} {ws : List (List Int)} {es : List Int} {ps : List (Str × Nat)} {tk : List ((Nat × Nat) × Nat)} {S : Sto} {i : Nat} {w : List Int} {p : Str × Nat}
def headIs (h : List Int) (z : Int) : Bool := match h with
  | [] => false
  | a :: _ => decide (a = z)
def kinds4 : List Str := ["look", "yield", "low", "anew"]
structure PlOk (k : Nat) (M : Nat → Nat → Str) (w : List Int) (i : Nat) (p : Str × Nat) : Prop where
  kind : p.1 ∈ kinds8
  ten : p.2 < 10
  hand : p.1 = ("hand" : Str) → p.2 < (evL M w i).length
  spot : p.1 ∈ kinds4 → p.2 < w.length
structure StP (k : Nat) (M : Nat → Nat → Str) (ws : List (List Int)) (ps : List (Str × Nat)) (tk : List ((Nat × Nat) × Nat)) : Prop where
  st : St k M ps tk
  at_ : ∀ (i : Nat) w p, ws[i]? = some w → ps[i]? = some p → PlOk k M w i p
theorem Lk.wlen (L : Lk k M ws es) (hi : i < k) (hw : ws[i]? = some w) : w.length + 1 = k := by
  have hperm := L.ways.2 i w hw
  have h1 := hperm.length_eq
  have h2 : ∀ n, (others n i).length = if i < n then n - 1 else n := fun n => by
    induction n with
    | zero => rfl
    | succ n ih =>
      rw [others_succ, List.length_append, ih]
      by_cases h : n = i
      · subst h; simp
      · by_cases h2 : i < n
        · rw [if_pos h2, if_neg h, if_pos (by omega)]; simp; omega
        · rw [if_neg h2, if_neg h, if_neg (by omega)]; simp
  have h3 := h2 k
  rw [if_pos hi] at h3
  omega
theorem Lk.spot_j (L : Lk k M ws es) (hi : i < k) (hw : ws[i]? = some w) {t : Nat} (ht : t < w.length) : ∃ j : Nat, w[t]? = some (j : Int) ∧ j < k ∧ j ≠ i := by
  obtain ⟨j, ej, hj, hne⟩ := others_mem ((L.ways.2 i w hw).mem_iff.mp (List.getElem_mem ht))
  exact ⟨j, by rw [List.getElem?_eq_getElem ht, ej], hj, hne⟩
def goesS (M : Nat → Nat → Str) (es : List Int) (ps : List (Str × Nat)) (tk : List ((Nat × Nat) × Nat)) (i j : Nat) (q : Str × Nat) : Bool :=
  decide (M i j = ("pass" : Str)) || (decide (flagS es q.1 j = ("down" : Str)) || (decide (M i j = ("even" : Str)) && (decide (flagS es q.1 j = ("up" : Str)) && headIs (hold tk (min i j) (max i j)) (i : Int))))
def jOf (w : List Int) (t : Nat) : Nat := (w.getD t 0).toNat
def plainS : List (Str × Str) := [("rest", "begin"), ("wish", "raise"), ("hand", "hand"), ("yield", "lower"), ("in", "leave")]
def wLast (k t : Nat) (a b : Str) : Str := if decide (t + 2 = k) = true then a else b
def nextW (k : Nat) (M : Nat → Nat → Str) (es : List Int) (ps : List (Str × Nat)) (tk : List ((Nat × Nat) × Nat)) (i : Nat) (p : Str × Nat) (j : Nat) (q : Str × Nat) : Option Str :=
  if p.1 = ("look" : Str) then (if goesS M es ps tk i j q = true then some (wLast k p.2 "enter" "look") else if decide (M i j ∈ (["bow", "slip"] : List Str)) = true then some "yield" else none)
  else if p.1 = ("low" : Str) then (if decide (flagS es q.1 j = ("down" : Str)) = true then some "see" else none)
  else if p.1 = ("anew" : Str) then some (wLast k p.2 "enter" "raise")
  else (plainS.find? fun z => decide (z.1 = p.1)).map (·.2)
end
end Vw
set_option maxRecDepth 100000
set_option maxHeartbeats 4000000
namespace Vw
open PySem PySem.Spec L2
theorem Bag.cell {n : Nat} {S : Sto} {c : Cell} (b : Bag n S) : Bag n (S ++ [c]) := b.push
theorem dSlT_of {c : Bool} {fe : DE} {fl fh : DO} {G : Gam} {S S1 S2 S3 : Sto} {xs : List D} {l h : Option Int} (h1 : fe G S = some (.tup xs, S1)) (h2 : fl G S1 = some (l, S2)) (h3 : fh G S2 = some (h, S3)) (hl : (cutD xs l h).length ≤ 1000000) : dSlG c fe fl fh G S = some (.tup (cutD xs l h), S3) := by
  unfold dSlG
  simp only [h1, Option.bind_some, h2, h3]
  exact okt hl
section
variable {k : Nat} {M : Nat → Nat → Str} {ws : List (List Int)} {es : List Int} {ps : List (Str × Nat)} {tk : List ((Nat × Nat) × Nat)} {S : Sto} {i : Nat} {w : List Int} {p : Str × Nat}
def handT (tk : List ((Nat × Nat) × Nat)) (i j : Nat) : List ((Nat × Nat) × Nat) := tk.map fun t => (t.1, if isTok (min i j) (max i j) t = true then j else t.2)
def handP (es : List Int) (i n t : Nat) : Str × Nat := if decide (t + 1 < n) = true then ("hand", t + 1) else if decide ((i : Int) ∈ es) = true then ("wish", 0) else ("look", 0)
def begunP (es : List Int) (own : List Int) (i : Nat) : Str × Nat := if decide ((i : Int) ∈ es ∧ own ≠ []) = true then ("hand", 0) else ("wish", 0)
def raisedP (es : List Int) (own : List Int) (i : Nat) : Str × Nat := if decide (own ≠ [] ∧ ¬ (i : Int) ∈ es) = true then ("hand", 0) else ("look", 0)
def onP (k t : Nat) : Str × Nat := if decide (t + 2 = k) = true then ("in", 0) else ("look", t + 1)
def afterS (k : Nat) (M : Nat → Nat → Str) (es : List Int) (ps : List (Str × Nat)) (tk : List ((Nat × Nat) × Nat)) (w : List Int) (i : Nat) (p : Str × Nat) (j : Nat) (q : Str × Nat) : List (Str × Nat) × List ((Nat × Nat) × Nat) :=
  let own := evL M w i
  if p.1 = ("rest" : Str) then (ps.set i (begunP es own i), tk)
  else if p.1 = ("in" : Str) then (ps.set i ("rest", 0), tk)
  else if p.1 = ("yield" : Str) then (ps.set i ("low", p.2), tk)
  else if p.1 = ("wish" : Str) then (ps.set i (raisedP es own i), tk)
  else if p.1 = ("hand" : Str) then (ps.set i (handP es i own.length p.2), handT tk i (own.getD p.2 0).toNat)
  else if p.1 = ("anew" : Str) then (ps.set i (onP k p.2), tk)
  else if p.1 = ("low" : Str) then (if decide (flagS es q.1 j = ("down" : Str)) = true then (ps.set i (if decide (M i j = ("slip" : Str)) = true then ("anew", p.2) else begunP es own i), tk) else (ps, tk))
  else if goesS M es ps tk i j q = true then (ps.set i (onP k p.2), tk)
  else if decide (M i j ∈ (["bow", "slip"] : List Str)) = true then (ps.set i ("yield", p.2), tk)
  else (ps, tk)
theorem ne_own {own : List Int} : opEq true (.lst (intL own)) (.lst []) S = some (.bl (decide (own ≠ [])), S) := by
  unfold opEq eqD
  rw [show eqS (.lst (intL own)) (.lst []) = none from rfl]
  show (eqP S (.lst (intL own)) (.lst [])).map _ = _
  unfold eqP
  have e1 : pyOf S (.lst (intL own)) = some (.list (own.map PyData.int)) := by
    show (toPs _ (own.map D.int)).map _ = _
    rw [pys_ints]; rfl
  have e2 : pyOf S (.lst []) = some (.list []) := rfl
  rw [e1, e2]
  simp only [Option.bind_some]
  rw [shaped_ints, show SeqAt.shaped (.list []) = true from shaped_ints []]
  cases own with
  | nil => rfl
  | cons x xs => rfl
end
end Vw
set_option maxRecDepth 100000
set_option maxHeartbeats 4000000
namespace Vw
open PySem PySem.Spec L2
section
variable {k : Nat} {M : Nat → Nat → Str} {ws : List (List Int)} {es : List Int} {S : Sto}
theorem four_eight : ∀ x ∈ kinds4, x ∈ kinds8 := by decide
theorem pok_spot {x : Str} {t i : Nat} {w : List Int} (hx : x ∈ kinds4) (ht : t < w.length) (h9 : w.length ≤ 9) : PlOk k M w i (pW x t) :=
  ⟨four_eight x hx, by show t < 10; omega, fun h => by rw [show x = ("hand" : Str) from h] at hx; exact absurd hx (by decide), fun _ => ht⟩
theorem pok_hand {t i : Nat} {w : List Int} (ht : t < (evL M w i).length) (h10 : t < 10) : PlOk k M w i (pW "hand" t) := ⟨show ("hand" : Str) ∈ kinds8 by decide, h10, fun _ => ht, fun h => absurd (show ("hand" : Str) ∈ kinds4 from h) (by decide)⟩
theorem three_k : ∀ x ∈ (["rest", "wish", "in"] : List Str), x ∈ kinds8 ∧ ¬ x = ("hand" : Str) ∧ ¬ x ∈ kinds4 := by decide
theorem pok_zero {x : Str} {i : Nat} {w : List Int} (hx : x ∈ (["rest", "wish", "in"] : List Str)) : PlOk k M w i (pW x 0) :=
  ⟨(three_k x hx).1, by show 0 < 10; omega, fun h => absurd h (three_k x hx).2.1, fun h => absurd h (three_k x hx).2.2⟩
end
end Vw
set_option maxRecDepth 100000
set_option maxHeartbeats 4000000
namespace Vw
open PySem PySem.Spec L2
section
variable {k : Nat} {M : Nat → Nat → Str} {ws : List (List Int)} {es : List Int} {ps : List (Str × Nat)} {tk : List ((Nat × Nat) × Nat)} {S : Sto} {i j : Nat} {w : List Int} {p q : Str × Nat}
theorem StP.jq (L : Lk k M ws es) (s : StP k M ws ps tk) (hi : i < k) (hw : ws[i]? = some w) (hp : ps[i]? = some p) : ∃ j q, p.1 ∈ kinds4 → w[p.2]? = some ((j : Nat) : Int) ∧ j < k ∧ ps[j]? = some q := by
  have o := s.at_ i w p hw hp
  by_cases h : p.1 ∈ kinds4
  · obtain ⟨j, hj, hjk, _⟩ := L.spot_j hi hw (o.spot h)
    exact ⟨j, ps[j]'(by rw [s.st.len]; exact hjk), fun _ => ⟨hj, hjk, List.getElem?_eq_getElem _⟩⟩
  · exact ⟨0, p, fun x => absurd x h⟩
theorem StP.wp (L : Lk k M ws es) (s : StP k M ws ps tk) (hi : i < k) : ∃ w p, ws[i]? = some w ∧ ps[i]? = some p := by
  obtain ⟨w, hw⟩ := L.way hi
  exact ⟨w, ps[i]'(by rw [s.st.len]; exact hi), hw, List.getElem?_eq_getElem _⟩
theorem StP.put (s : StP k M ws ps tk) (hi : i < k) (hw : ws[i]? = some w) (o : PlOk k M w i q) : StP k M ws (ps.set i q) tk := by
  refine ⟨⟨by rw [List.length_set]; exact s.st.len, fun p hp => ?_, s.st.prs, s.st.own⟩, fun a w' p hw' hp => ?_⟩
  · rcases List.mem_or_eq_of_mem_set hp with h | h
    · exact s.st.pl p h
    · rw [h]; exact ⟨o.kind, o.ten⟩
  · rw [List.getElem?_set] at hp
    by_cases h : i = a
    · subst h
      rw [if_pos rfl, if_pos (by rw [s.st.len]; exact hi)] at hp
      cases hp
      rw [hw] at hw'
      cases hw'
      exact o
    · rw [if_neg h] at hp
      exact s.at_ a w' p hw' hp
end
end Vw
set_option maxRecDepth 100000
set_option maxHeartbeats 4000000
namespace Vw
open PySem PySem.Spec L2
end Vw
set_option maxRecDepth 100000
set_option maxHeartbeats 4000000
namespace Vw
open PySem PySem.Spec L2
end Vw
set_option maxRecDepth 100000
set_option maxHeartbeats 4000000
namespace Vw
open PySem PySem.Spec L2
section
variable {k : Nat} {M : Nat → Nat → Str} {ws : List (List Int)} {es : List Int} {ps : List (Str × Nat)} {tk : List ((Nat × Nat) × Nat)} {S : Sto} {i j : Nat} {w : List Int} {p q : Str × Nat}
/-- the new place -/
def placeS (k : Nat) (M : Nat → Nat → Str) (es : List Int) (ps : List (Str × Nat)) (tk : List ((Nat × Nat) × Nat)) (w : List Int) (i : Nat) (p : Str × Nat) (j : Nat) (q : Str × Nat) : Str × Nat :=
  let own := evL M w i
  if p.1 = ("rest" : Str) then begunP es own i
  else if p.1 = ("in" : Str) then ("rest", 0)
  else if p.1 = ("yield" : Str) then ("low", p.2)
  else if p.1 = ("wish" : Str) then raisedP es own i
  else if p.1 = ("hand" : Str) then handP es i own.length p.2
  else if p.1 = ("anew" : Str) then onP k p.2
  else if p.1 = ("low" : Str) then (if decide (M i j = ("slip" : Str)) = true then ("anew", p.2) else begunP es own i)
  else if goesS M es ps tk i j q = true then onP k p.2
  else ("yield", p.2)
def tokS (M : Nat → Nat → Str) (tk : List ((Nat × Nat) × Nat)) (w : List Int) (i : Nat) (p : Str × Nat) : List ((Nat × Nat) × Nat) :=
  if p.1 = ("hand" : Str) then handT tk i ((evL M w i).getD p.2 0).toNat else tk
theorem kinds_or (h : p.1 ∈ kinds8) : p.1 = ("rest" : Str) ∨ p.1 = ("wish" : Str) ∨ p.1 = ("in" : Str) ∨ p.1 = ("hand" : Str) ∨ p.1 = ("look" : Str) ∨ p.1 = ("yield" : Str) ∨ p.1 = ("low" : Str) ∨ p.1 = ("anew" : Str) := by
  simpa only [kinds8, List.mem_cons, List.not_mem_nil, or_false] using h
theorem afterS_eq {x : Str} (hk : p.1 ∈ kinds8) (h : nextW k M es ps tk i p j q = some x) : afterS k M es ps tk w i p j q = (ps.set i (placeS k M es ps tk w i p j q), tokS M tk w i p) := by
  unfold afterS placeS tokS
  rcases kinds_or hk with e | e | e | e | e | e | e | e
  · simp only [e, if_true, if_pos, if_neg (show ¬ ("rest" : Str) = ("hand" : Str) by decide)]
  · rw [e]
    simp only [if_neg (show ¬ ("wish" : Str) = ("rest" : Str) by decide), if_neg (show ¬ ("wish" : Str) = ("in" : Str) by decide), if_neg (show ¬ ("wish" : Str) = ("yield" : Str) by decide), if_true, if_neg (show ¬ ("wish" : Str) = ("hand" : Str) by decide)]
  · rw [e]
    simp only [if_neg (show ¬ ("in" : Str) = ("rest" : Str) by decide), if_true, if_neg (show ¬ ("in" : Str) = ("hand" : Str) by decide)]
  · rw [e]
    simp only [if_neg (show ¬ ("hand" : Str) = ("rest" : Str) by decide), if_neg (show ¬ ("hand" : Str) = ("in" : Str) by decide), if_neg (show ¬ ("hand" : Str) = ("yield" : Str) by decide), if_neg (show ¬ ("hand" : Str) = ("wish" : Str) by decide), if_true]
  · rw [e]
    simp only [if_neg (show ¬ ("look" : Str) = ("rest" : Str) by decide), if_neg (show ¬ ("look" : Str) = ("in" : Str) by decide), if_neg (show ¬ ("look" : Str) = ("yield" : Str) by decide), if_neg (show ¬ ("look" : Str) = ("wish" : Str) by decide), if_neg (show ¬ ("look" : Str) = ("hand" : Str) by decide), if_neg (show ¬ ("look" : Str) = ("anew" : Str) by decide), if_neg (show ¬ ("look" : Str) = ("low" : Str) by decide)]
    unfold nextW at h
    rw [if_pos e] at h
    cases hg : goesS M es ps tk i j q with
    | true => rfl
    | false =>
      rw [hg, if_neg Bool.false_ne_true] at h
      cases hb : decide (M i j ∈ (["bow", "slip"] : List Str)) with
      | true => rfl
      | false => rw [hb, if_neg Bool.false_ne_true] at h; cases h
  · rw [e]
    simp only [if_neg (show ¬ ("yield" : Str) = ("rest" : Str) by decide), if_neg (show ¬ ("yield" : Str) = ("in" : Str) by decide), if_true, if_neg (show ¬ ("yield" : Str) = ("hand" : Str) by decide)]
  · rw [e]
    simp only [if_neg (show ¬ ("low" : Str) = ("rest" : Str) by decide), if_neg (show ¬ ("low" : Str) = ("in" : Str) by decide), if_neg (show ¬ ("low" : Str) = ("yield" : Str) by decide), if_neg (show ¬ ("low" : Str) = ("wish" : Str) by decide), if_neg (show ¬ ("low" : Str) = ("hand" : Str) by decide), if_neg (show ¬ ("low" : Str) = ("anew" : Str) by decide), if_true]
    unfold nextW at h
    rw [if_neg (by rw [e]; decide), if_pos e] at h
    cases hd : decide (flagS es q.1 j = ("down" : Str)) with
    | true => rfl
    | false => rw [hd, if_neg Bool.false_ne_true] at h; cases h
  · rw [e]
    simp only [if_neg (show ¬ ("anew" : Str) = ("rest" : Str) by decide), if_neg (show ¬ ("anew" : Str) = ("in" : Str) by decide), if_neg (show ¬ ("anew" : Str) = ("yield" : Str) by decide), if_neg (show ¬ ("anew" : Str) = ("wish" : Str) by decide), if_neg (show ¬ ("anew" : Str) = ("hand" : Str) by decide), if_true]
end
end Vw
set_option maxRecDepth 100000
set_option maxHeartbeats 4000000
namespace Vw
open PySem PySem.Spec L2
section
variable {k : Nat} {M : Nat → Nat → Str} {ws : List (List Int)} {es : List Int} {ps : List (Str × Nat)} {tk : List ((Nat × Nat) × Nat)} {S : Sto} {i j : Nat} {w : List Int} {p q : Str × Nat} {x : Str}
theorem wLast_or {a b : Str} {t : Nat} : (t + 2 = k ∧ wLast k t a b = a) ∨ (¬ t + 2 = k ∧ wLast k t a b = b) := by
  unfold wLast
  by_cases h : t + 2 = k
  · exact .inl ⟨h, by rw [decide_eq_true h]; rfl⟩
  · exact .inr ⟨h, by rw [decide_eq_false h]; rfl⟩
/-- the word, the kind of place, and the new place -/
theorem step_cases (hk : p.1 ∈ kinds8) (h : nextW k M es ps tk i p j q = some x) :
    (p.1 = ("rest" : Str) ∧ x = "begin" ∧ placeS k M es ps tk w i p j q = begunP es (evL M w i) i) ∨
    (p.1 = ("wish" : Str) ∧ x = "raise" ∧ placeS k M es ps tk w i p j q = raisedP es (evL M w i) i) ∨
    (p.1 = ("in" : Str) ∧ x = "leave" ∧ placeS k M es ps tk w i p j q = pW "rest" (0)) ∨
    (p.1 = ("hand" : Str) ∧ x = "hand" ∧ placeS k M es ps tk w i p j q = handP es i (evL M w i).length p.2) ∨
    (p.1 = ("yield" : Str) ∧ x = "lower" ∧ placeS k M es ps tk w i p j q = pW "low" (p.2)) ∨
    (p.1 = ("low" : Str) ∧ x = "see" ∧ placeS k M es ps tk w i p j q = (if decide (M i j = ("slip" : Str)) = true then pW "anew" (p.2) else begunP es (evL M w i) i)) ∨
    (p.1 = ("anew" : Str) ∧ x = "enter" ∧ p.2 + 2 = k ∧ placeS k M es ps tk w i p j q = pW "in" (0)) ∨
    (p.1 = ("anew" : Str) ∧ x = "raise" ∧ ¬ p.2 + 2 = k ∧ placeS k M es ps tk w i p j q = pW "look" (p.2 + 1)) ∨
    (p.1 = ("look" : Str) ∧ x = "enter" ∧ p.2 + 2 = k ∧ placeS k M es ps tk w i p j q = pW "in" (0)) ∨
    (p.1 = ("look" : Str) ∧ x = "look" ∧ ¬ p.2 + 2 = k ∧ placeS k M es ps tk w i p j q = pW "look" (p.2 + 1)) ∨
    (p.1 = ("look" : Str) ∧ x = "yield" ∧ placeS k M es ps tk w i p j q = pW "yield" (p.2)) := by
  have on_in : p.2 + 2 = k → onP k p.2 = pW "in" 0 := fun e => by unfold onP; rw [decide_eq_true e]; rfl
  have on_lk : ¬ p.2 + 2 = k → onP k p.2 = pW "look" (p.2 + 1) := fun e => by unfold onP; rw [decide_eq_false e]; rfl
  unfold nextW at h
  unfold placeS
  rcases kinds_or hk with e | e | e | e | e | e | e | e
  · rw [e] at h ⊢
    exact .inl ⟨rfl, (Option.some.inj h).symm, by rw [if_pos rfl]⟩
  · rw [e] at h ⊢
    exact .inr (.inl ⟨rfl, (Option.some.inj h).symm, by rw [if_neg (by decide), if_neg (by decide), if_neg (by decide), if_pos rfl]⟩)
  · rw [e] at h ⊢
    exact .inr (.inr (.inl ⟨rfl, (Option.some.inj h).symm, by rw [if_neg (by decide), if_pos rfl]⟩))
  · rw [e] at h ⊢
    exact .inr (.inr (.inr (.inl ⟨rfl, (Option.some.inj h).symm, by rw [if_neg (by decide), if_neg (by decide), if_neg (by decide), if_neg (by decide), if_pos rfl]⟩)))
  · rw [e] at h ⊢
    rw [if_pos rfl] at h
    rw [if_neg (by decide), if_neg (by decide), if_neg (by decide), if_neg (by decide), if_neg (by decide), if_neg (by decide), if_neg (by decide)]
    cases hg : goesS M es ps tk i j q with
    | true =>
      rw [hg, if_pos rfl] at h
      rw [if_pos rfl]
      rcases wLast_or (k := k) (t := p.2) (a := "enter") (b := "look") with ⟨h1, h2⟩ | ⟨h1, h2⟩
      · exact .inr (.inr (.inr (.inr (.inr (.inr (.inr (.inr (.inl ⟨rfl, by rw [← Option.some.inj h]; exact h2, h1, on_in h1⟩))))))))
      · exact .inr (.inr (.inr (.inr (.inr (.inr (.inr (.inr (.inr (.inl ⟨rfl, by rw [← Option.some.inj h]; exact h2, h1, on_lk h1⟩)))))))))
    | false =>
      rw [hg, if_neg Bool.false_ne_true] at h
      rw [if_neg Bool.false_ne_true]
      cases hb : decide (M i j ∈ (["bow", "slip"] : List Str)) with
      | true =>
        rw [hb, if_pos rfl] at h
        exact .inr (.inr (.inr (.inr (.inr (.inr (.inr (.inr (.inr (.inr ⟨rfl, (Option.some.inj h).symm, rfl⟩)))))))))
      | false => rw [hb, if_neg Bool.false_ne_true] at h; cases h
  · rw [e] at h ⊢
    exact .inr (.inr (.inr (.inr (.inl ⟨rfl, (Option.some.inj h).symm, by rw [if_neg (by decide), if_neg (by decide), if_pos rfl]⟩))))
  · rw [e] at h ⊢
    rw [if_neg (by decide), if_pos rfl] at h
    cases hd : decide (flagS es q.1 j = ("down" : Str)) with
    | true =>
      rw [hd, if_pos rfl] at h
      exact .inr (.inr (.inr (.inr (.inr (.inl ⟨rfl, (Option.some.inj h).symm, by rw [if_neg (by decide), if_neg (by decide), if_neg (by decide), if_neg (by decide), if_neg (by decide), if_neg (by decide), if_pos rfl]⟩)))))
    | false => rw [hd, if_neg Bool.false_ne_true] at h; cases h
  · rw [e] at h ⊢
    rw [if_neg (by decide), if_neg (by decide), if_pos rfl] at h
    rw [if_neg (by decide), if_neg (by decide), if_neg (by decide), if_neg (by decide), if_neg (by decide), if_pos rfl]
    rcases wLast_or (k := k) (t := p.2) (a := "enter") (b := "raise") with ⟨h1, h2⟩ | ⟨h1, h2⟩
    · exact .inr (.inr (.inr (.inr (.inr (.inr (.inl ⟨rfl, by rw [← Option.some.inj h]; exact h2, h1, on_in h1⟩))))))
    · exact .inr (.inr (.inr (.inr (.inr (.inr (.inr (.inl ⟨rfl, by rw [← Option.some.inj h]; exact h2, h1, on_lk h1⟩)))))))
theorem begunP_pok (L : Lk k M ws es) (hw : ws[i]? = some w) : PlOk k M w i (begunP es (evL M w i) i) := by
  unfold begunP
  split
  · rename_i hc
    have h := (of_decide_eq_true hc).2
    exact pok_hand (by cases e : evL M w i with | nil => exact absurd e h | cons _ _ => simp) (by decide)
  · exact pok_zero (by decide)
theorem StP.after (L : Lk k M ws es) (s : StP k M ws ps tk) (h2 : 2 ≤ k) (hi : i < k) (hw : ws[i]? = some w) (hp : ps[i]? = some p) (h : nextW k M es ps tk i p j q = some x) : StP k M ws (ps.set i (placeS k M es ps tk w i p j q)) (tokS M tk w i p) := by
  have o := s.at_ i w p hw hp
  have hwl := L.wlen hi hw
  have hk10 := L.k10
  have hel := L.ev_len hw
  have ht : ∀ t : ((Nat × Nat) × Nat), t ∈ tokS M tk w i p → t.2 < 10 := fun t ht => by
    unfold tokS at ht
    by_cases hh : p.1 = ("hand" : Str)
    · rw [if_pos hh] at ht
      obtain ⟨t0, ht0, rfl⟩ := List.mem_map.mp ht
      have hhd := o.hand hh
      obtain ⟨j', ej, hj', _, _⟩ := L.ev_mem hw (List.getElem_mem hhd)
      have e2 : ((evL M w i).getD p.2 0).toNat = j' := by rw [List.getD_eq_getElem?_getD, List.getElem?_eq_getElem hhd, ej]; rfl
      show (if isTok _ _ t0 = true then ((evL M w i).getD p.2 0).toNat else t0.2) < 10
      split
      · rw [e2]; omega
      · exact s.st.own t0 ht0
    · rw [if_neg hh] at ht
      exact s.st.own t ht
  have hpr : (tokS M tk w i p).map (·.1) = evUp k M := by
    unfold tokS
    split
    · unfold handT
      rw [List.map_map]
      exact s.st.prs
    · exact s.st.prs
  have s0 : StP k M ws ps (tokS M tk w i p) := ⟨⟨s.st.len, s.st.pl, hpr, ht⟩, s.at_⟩
  refine s0.put hi hw ?_
  have bg := begunP_pok (es := es) L hw
  rcases step_cases (w := w) o.kind h with ⟨e, _, hr⟩ | ⟨e, _, hr⟩ | ⟨e, _, hr⟩ | ⟨e, _, hr⟩ | ⟨e, _, hr⟩ | ⟨e, _, hr⟩ | ⟨e, _, h1, hr⟩ | ⟨e, _, h1, hr⟩ | ⟨e, _, h1, hr⟩ | ⟨e, _, h1, hr⟩ | ⟨e, _, hr⟩ <;> rw [hr]
  · exact bg
  · unfold raisedP
    split
    · rename_i hc
      have hne := (of_decide_eq_true hc).1
      exact pok_hand (by cases e : evL M w i with | nil => exact absurd e hne | cons _ _ => simp) (by decide)
    · exact pok_spot (by decide) (by omega) (by omega)
  · exact pok_zero (by decide)
  · unfold handP
    split
    · rename_i hc
      have := of_decide_eq_true hc
      exact pok_hand this (by have hl : (evL M w i).length ≤ w.length := List.length_filter_le _ _; omega)
    · split
      · exact pok_zero (by decide)
      · exact pok_spot (by decide) (by omega) (by omega)
  · have := o.spot (by rw [e]; decide)
    exact pok_spot (by decide) this (by omega)
  · split
    · have := o.spot (by rw [e]; decide)
      exact pok_spot (by decide) this (by omega)
    · exact bg
  · exact pok_zero (by decide)
  · have := o.spot (by rw [e]; decide)
    exact pok_spot (by decide) (by omega) (by omega)
  · exact pok_zero (by decide)
  · have := o.spot (by rw [e]; decide)
    exact pok_spot (by decide) (by omega) (by omega)
  · have := o.spot (by rw [e]; decide)
    exact pok_spot (by decide) this (by omega)
end
end Vw
set_option maxRecDepth 100000
set_option maxHeartbeats 4000000
namespace Vw
open PySem PySem.Spec L2
abbrev Pls := List (Str × Nat)
abbrev Tks := List ((Nat × Nat) × Nat)
structure Ev where
  i : Nat
  x : Str
  ps : Pls
  tk : Tks
def StepS (k : Nat) (M : Nat → Nat → Str) (ws : List (List Int)) (es : List Int) (ps : Pls) (tk : Tks) (e : Ev) : Prop :=
  ∃ (w : List Int) (p : Str × Nat) (j : Nat) (q : Str × Nat), e.i < k ∧ ws[e.i]? = some w ∧ ps[e.i]? = some p ∧ (p.1 ∈ kinds4 → w[p.2]? = some ((j : Nat) : Int) ∧ j < k ∧ ps[j]? = some q) ∧
    nextW k M es ps tk e.i p j q = some e.x ∧ e.ps = ps.set e.i (placeS k M es ps tk w e.i p j q) ∧ e.tk = tokS M tk w e.i p
def RunTo (k : Nat) (M : Nat → Nat → Str) (ws : List (List Int)) (es : List Int) : Pls → Tks → List Ev → Pls → Tks → Prop
  | ps, tk, [], ps', tk' => ps = ps' ∧ tk = tk'
  | ps, tk, e :: r, ps', tk' => StepS k M ws es ps tk e ∧ RunTo k M ws es e.ps e.tk r ps' tk'
section
variable {k : Nat} {M : Nat → Nat → Str} {ws : List (List Int)} {es own : List Int} {ps ps' : Pls} {tk tk' : Tks} {S : Sto} {i c : Nat} {w : List Int} {p p' q : Str × Nat} {x : Str} {e : Ev} {evs : List Ev} {xs : List Str}
theorem RunTo.app : ∀ {l r : List Ev} {a b b1 : Pls} {t u u1 : Tks}, RunTo k M ws es a t l b u → RunTo k M ws es b u r b1 u1 → RunTo k M ws es a t (l ++ r) b1 u1
  | [], _, _, _, _, _, _, _, ⟨rfl, rfl⟩, h => h
  | _ :: _, _, _, _, _, _, _, _, ⟨h1, h2⟩, h => ⟨h1, RunTo.app h2 h⟩
def fC (es own : List Int) (i : Nat) (p : Str × Nat) : Nat :=
  if p.1 = ("wish" : Str) then (if decide ((i : Int) ∈ es) = true then 1 + own.length else 1) else if p.1 = ("hand" : Str) then (if decide ((i : Int) ∈ es) = true then 1 + p.2 else 2 + p.2) else 2 + own.length + p.2
def CI (es own : List Int) (i : Nat) (p : Str × Nat) (c : Nat) (b : Bool) : Prop := p.1 = ("rest" : Str) ∨ p.1 = ("in" : Str) ∨ (b = true ∧ p.1 ∈ (["wish", "hand", "look"] : List Str) ∧ c = fC es own i p) ∨ (b = false ∧ fC es own i p < c)
theorem CI.go {b : Bool} {n : Nat} (h : CI es own i p n b) (h1 : ¬ p.1 = ("rest" : Str)) (h2 : ¬ p.1 = ("in" : Str)) : (b = true ∧ p.1 ∈ (["wish", "hand", "look"] : List Str) ∧ n = fC es own i p) ∨ (b = false ∧ fC es own i p < n) := by
  rcases h with h | h | h | h
  · exact absurd h h1
  · exact absurd h h2
  · exact .inl h
  · exact .inr h
def Alone (k c : Nat) (ps : Pls) (p : Str × Nat) : Prop := ps[c]? = some p ∧ ∀ j, j < k → j ≠ c → ps[j]? = some restP
def LR (k : Nat) (M : Nat → Nat → Str) (ws : List (List Int)) (es : List Int) (c : Nat) (p : Str × Nat) (xs : List Str) (p' : Str × Nat) : Prop :=
  ∀ ps tk, StP k M ws ps tk → Alone k c ps p → ∃ evs ps' tk', RunTo k M ws es ps tk evs ps' tk' ∧ evs.map (·.i) = List.replicate xs.length c ∧ evs.map (·.x) = xs ∧ StP k M ws ps' tk' ∧ Alone k c ps' p'
theorem LR.comp {ys : List Str} {p2 : Str × Nat} (h1 : LR k M ws es c p xs p') (h2 : LR k M ws es c p' ys p2) : LR k M ws es c p (xs ++ ys) p2 := by
  intro ps tk s a
  obtain ⟨e1, ps1, tk1, r1, i1, x1, s1, a1⟩ := h1 ps tk s a
  obtain ⟨e2, ps2, tk2, r2, i2, x2, s2, a2⟩ := h2 ps1 tk1 s1 a1
  exact ⟨e1 ++ e2, ps2, tk2, r1.app r2, by rw [List.map_append, i1, i2, List.length_append, List.replicate_append_replicate], by rw [List.map_append, x1, x2], s2, a2⟩
theorem LR.step (L : Lk k M ws es) (h2 : 2 ≤ k) (hc : c < k) (hw : ws[c]? = some w)
    (h : ∀ ps tk j q, Alone k c ps p → (p.1 ∈ kinds4 → w[p.2]? = some ((j : Nat) : Int) ∧ j < k ∧ ps[j]? = some q) → nextW k M es ps tk c p j q = some x ∧ placeS k M es ps tk w c p j q = p') : LR k M ws es c p [x] p' := by
  intro ps tk s a
  obtain ⟨j, q, hjq⟩ := s.jq L hc hw a.1
  obtain ⟨e1, e2⟩ := h ps tk j q a hjq
  have s2 := s.after L h2 hc hw a.1 e1
  rw [e2] at s2
  refine ⟨[⟨c, x, ps.set c p', tokS M tk w c p⟩], ps.set c p', tokS M tk w c p, ⟨⟨w, p, j, q, hc, hw, a.1, hjq, e1, by rw [e2], rfl⟩, rfl, rfl⟩, rfl, rfl, s2, ?_, fun j hj hne => ?_⟩
  · rw [List.getElem?_set_self (List.getElem?_eq_some_iff.mp a.1).1]
  · rw [List.getElem?_set_ne (fun h => hne h.symm)]
    exact a.2 j hj hne
end
end Vw
set_option maxRecDepth 100000
set_option maxHeartbeats 4000000
namespace Vw
open PySem PySem.Spec L2
theorem Bag.app {n : Nat} {S R : Sto} (b : Bag n S) : Bag n (S ++ R) := by
  obtain ⟨far, st, tu, rest, rfl, h⟩ := b
  exact ⟨far, st, tu, rest ++ R, rfl, h⟩
end Vw
set_option maxRecDepth 100000
set_option maxHeartbeats 4000000
namespace Vw
open PySem PySem.Spec L2
theorem eqvAll_strs : ∀ xs : List Str, PyData.eqvAll (xs.map PyData.str) (xs.map PyData.str) = true
  | [] => rfl
  | x :: xs => by
    show ((x == x) && PyData.eqvAll (xs.map PyData.str) (xs.map PyData.str)) = true
    rw [eqvAll_strs xs]; simp
theorem can_strs : ∀ xs : List Str, (∀ x ∈ xs, PyData.strOk x = true) → PyData.canLayAll0 (xs.map PyData.str) = true
  | [], _ => rfl
  | x :: xs, h => by
    show (PyData.strOk x && PyData.canLayAll0 (xs.map PyData.str)) = true
    rw [can_strs xs fun y hy => h y (List.mem_cons_of_mem _ hy), h x List.mem_cons_self]; rfl
theorem dep_strs : ∀ xs : List Str, PyData.depthAll (xs.map PyData.str) = 0
  | [] => rfl
  | x :: xs => by
    show max 0 (PyData.depthAll (xs.map PyData.str)) = 0
    rw [dep_strs xs]; rfl
theorem eqD_strs {S : Sto} {xs : List Str} (hx : ∀ x ∈ xs, PyData.strOk x = true) : eqD S (.lst (xs.map D.str)) (.lst (xs.map D.str)) = some true := by
  unfold eqD
  rw [show eqS (.lst (xs.map D.str)) (.lst (xs.map D.str)) = none from rfl]
  show eqP S (.lst (xs.map D.str)) (.lst (xs.map D.str)) = _
  unfold eqP
  have e1 : pyOf S (.lst (xs.map D.str)) = some (.list (xs.map PyData.str)) := by
    show (toPs _ (xs.map D.str)).map _ = _
    rw [toPs_map (f := D.str) (g := PyData.str) fun p _ => rfl]; rfl
  have hs : SeqAt.shaped (.list (xs.map PyData.str)) = true := by
    unfold SeqAt.shaped
    have h2 : (PyData.list (xs.map PyData.str)).depth = PyData.depthAll (xs.map PyData.str) + 1 := rfl
    rw [dep_strs] at h2
    rw [show (PyData.list (xs.map PyData.str)).canLay0 = true from can_strs xs hx, decide_eq_true (by omega)]; rfl
  rw [e1]
  simp only [Option.bind_some]
  rw [hs]
  show (some (PyData.eqvAll (xs.map PyData.str) (xs.map PyData.str)) : Option Bool) = _
  rw [eqvAll_strs]
theorem ne_strs {S : Sto} {xs : List Str} (hx : ∀ x ∈ xs, PyData.strOk x = true) : opEq true (.lst (xs.map D.str)) (.lst (xs.map D.str)) S = some (.bl false, S) := by
  unfold opEq; rw [eqD_strs hx]; rfl
theorem afterS_none {k : Nat} {M : Nat → Nat → Str} {es : List Int} {ps : List (Str × Nat)} {tk : List ((Nat × Nat) × Nat)} {w : List Int} {i j : Nat} {p q : Str × Nat} (hk : p.1 ∈ kinds8) (h : nextW k M es ps tk i p j q = none) : afterS k M es ps tk w i p j q = (ps, tk) := by
  unfold nextW at h
  unfold afterS
  rcases kinds_or hk with e | e | e | e | e | e | e | e
  · rw [e] at h; cases h
  · rw [e] at h; cases h
  · rw [e] at h; cases h
  · rw [e] at h; cases h
  · rw [e] at h ⊢
    rw [if_pos rfl] at h
    rw [if_neg (by decide), if_neg (by decide), if_neg (by decide), if_neg (by decide), if_neg (by decide), if_neg (by decide), if_neg (by decide)]
    cases hg : goesS M es ps tk i j q with
    | true => rw [hg, if_pos rfl] at h; cases h
    | false =>
      rw [hg, if_neg Bool.false_ne_true] at h
      rw [if_neg Bool.false_ne_true]
      cases hb : decide (M i j ∈ (["bow", "slip"] : List Str)) with
      | true => rw [hb, if_pos rfl] at h; cases h
      | false => rfl
  · rw [e] at h; cases h
  · rw [e] at h ⊢
    rw [if_neg (by decide), if_pos rfl] at h
    rw [if_neg (by decide), if_neg (by decide), if_neg (by decide), if_neg (by decide), if_neg (by decide), if_neg (by decide), if_pos rfl]
    cases hd : decide (flagS es q.1 j = ("down" : Str)) with
    | true => rw [hd, if_pos rfl] at h; cases h
    | false => rfl
  · rw [e] at h; cases h
end Vw
set_option maxRecDepth 100000
set_option maxHeartbeats 4000000
namespace Vw
open PySem PySem.Spec L2
def wAt (ws : List (List Int)) (i : Nat) : List Int := ws.getD i []
def pAt (ps : Pls) (i : Nat) : Str × Nat := ps.getD i ("", 0)
def jAt (ws : List (List Int)) (ps : Pls) (i : Nat) : Nat := jOf (wAt ws i) (pAt ps i).2
def nx1 (k : Nat) (M : Nat → Nat → Str) (ws : List (List Int)) (es : List Int) (ps : Pls) (tk : Tks) (i : Nat) : Option Str := nextW k M es ps tk i (pAt ps i) (jAt ws ps i) (pAt ps (jAt ws ps i))
def af1 (k : Nat) (M : Nat → Nat → Str) (ws : List (List Int)) (es : List Int) (ps : Pls) (tk : Tks) (i : Nat) : Pls × Tks := afterS k M es ps tk (wAt ws i) i (pAt ps i) (jAt ws ps i) (pAt ps (jAt ws ps i))
section
variable {k : Nat} {M : Nat → Nat → Str} {ws : List (List Int)} {es : List Int} {ps : Pls} {tk : Tks} {S : Sto} {i : Nat} {x : Str}
theorem getD_at {α : Type} {l : List α} {i : Nat} {a d : α} (h : l[i]? = some a) : l.getD i d = a := by
  rw [List.getD_eq_getElem?_getD, h]; rfl
theorem at1 (L : Lk k M ws es) (s : StP k M ws ps tk) (hi : i < k) : ws[i]? = some (wAt ws i) ∧ ps[i]? = some (pAt ps i) ∧ ((pAt ps i).1 ∈ kinds4 → (wAt ws i)[(pAt ps i).2]? = some ((jAt ws ps i : Nat) : Int) ∧ jAt ws ps i < k ∧ ps[jAt ws ps i]? = some (pAt ps (jAt ws ps i))) := by
  obtain ⟨w, p, hw, hp⟩ := s.wp L hi
  have ew : wAt ws i = w := getD_at hw
  have ep : pAt ps i = p := getD_at hp
  obtain ⟨j, q, hjq⟩ := s.jq L hi hw hp
  refine ⟨by rw [ew]; exact hw, by rw [ep]; exact hp, fun h => ?_⟩
  rw [ep] at h
  obtain ⟨a1, a2, a3⟩ := hjq h
  have ej : jAt ws ps i = j := by
    unfold jAt jOf
    rw [ew, ep, getD_at a1]
    exact Int.toNat_natCast j
  have eq : pAt ps j = q := getD_at a3
  rw [ej, ew, ep, eq]
  exact ⟨a1, a2, a3⟩
theorem af_none (L : Lk k M ws es) (s : StP k M ws ps tk) (hi : i < k) (h : nx1 k M ws es ps tk i = none) : af1 k M ws es ps tk i = (ps, tk) := by
  obtain ⟨h1, h2, _⟩ := at1 L s hi
  exact afterS_none (s.at_ i _ _ h1 h2).kind h
theorem af_eq (L : Lk k M ws es) (s : StP k M ws ps tk) (hi : i < k) (h : nx1 k M ws es ps tk i = some x) : af1 k M ws es ps tk i = (ps.set i (placeS k M es ps tk (wAt ws i) i (pAt ps i) (jAt ws ps i) (pAt ps (jAt ws ps i))), tokS M tk (wAt ws i) i (pAt ps i)) := by
  obtain ⟨h1, h2, _⟩ := at1 L s hi
  exact afterS_eq (s.at_ i _ _ h1 h2).kind h
theorem af_stp (L : Lk k M ws es) (h2 : 2 ≤ k) (s : StP k M ws ps tk) (hi : i < k) : StP k M ws (af1 k M ws es ps tk i).1 (af1 k M ws es ps tk i).2 := by
  obtain ⟨a1, a2, _⟩ := at1 L s hi
  cases h : nx1 k M ws es ps tk i with
  | none => rw [af_none L s hi h]; exact s
  | some x => rw [af_eq L s hi h]; exact s.after L h2 hi a1 a2 h
end
end Vw
set_option maxRecDepth 100000
set_option maxHeartbeats 4000000
namespace Vw
open PySem PySem.Spec L2
section
variable {S S1 : Sto} {G G1 : Gam} {d : D} {f : DS} {xf xg : SXF} {r : Exc × Gam × Sto} {t : DT} {xd : DX} {e : Exc}
theorem sxSeq_x (h : xf G S = some r) : sxSeq f xf xg G S = some r := by unfold sxSeq; rw [h]
theorem sxSeq_n (hx : xf G S = none) (h : f G S = some (.nx, G1, S1)) : sxSeq f xf xg G S = xg G1 S1 := by unfold sxSeq; rw [hx, h]; rfl
theorem sxSeq_z (hx : xf G S = none) (h : f G S = some (.rt d, G1, S1)) : sxSeq f xf xg G S = none := by unfold sxSeq; rw [hx, h]; rfl
theorem sxIte_t (h : t G S = some (true, S1)) : sxIte t xf xg G S = xf G S1 := by unfold sxIte; rw [h]; rfl
theorem sxIte_f (h : t G S = some (false, S1)) : sxIte t xf xg G S = xg G S1 := by unfold sxIte; rw [h]; rfl
theorem sxE_of (h : xd G S = some (e, S1)) : sxE xd G S = some (e, G, S1) := by unfold sxE; rw [h]; rfl
theorem sxE_no (h : xd G S = none) : sxE xd G S = none := by unfold sxE; rw [h]; rfl
theorem dxFn_of {n : Nat} {b : SXF} {ds : List D} {G' : Gam} (h : b (ds.map some ++ List.replicate (n - ds.length) none) S = some (e, G', S1)) : dxDef n b ds S = some (e, S1) := by unfold dxDef; rw [h]; rfl
theorem dxFn_no {n : Nat} {b : SXF} {ds : List D} (h : b (ds.map some ++ List.replicate (n - ds.length) none) S = none) : dxDef n b ds S = none := by unfold dxDef; rw [h]; rfl
theorem dTry_n {i : Option Nat} {mt : Str → Option Bool} {b : DS} {su : ES} (h : xf G S = none) : dTry i mt b xf su G S = b G S := by unfold dTry; rw [h]
theorem dTry_a {i : Nat} {mt : Str → Option Bool} {b : DS} {su : ES} (h : xf G S = some (e, G1, S1)) (hm : mt e.cls = some true) (hi : i < G1.length) : dTry (some i) mt b xf su G S = (su e (G1.set i none) S1).map fun p => (p.1, p.2.1.set i none, p.2.2) := by
  unfold dTry; rw [h]; show (match mt e.cls with | some true => _ | _ => _) = _; rw [hm]; show (if i < G1.length then _ else _) = _; rw [if_pos hi]
end
section
variable {S : Sto}
theorem ne_bl {a b : Bool} : opEq true (.bl a) (.bl b) S = some (.bl (!decide (a = b)), S) := rfl
end
end Vw
set_option maxRecDepth 100000
set_option maxHeartbeats 4000000
namespace Vw
open PySem PySem.Spec L2
def goRun (k : Nat) (M : Nat → Nat → Str) (ws : List (List Int)) (es : List Int) : Pls → Tks → List Nat → List Ev
  | _, _, [] => []
  | ps, tk, h :: hs => match nx1 k M ws es ps tk h with
    | none => []
    | some x => ⟨h, x, (af1 k M ws es ps tk h).1, (af1 k M ws es ps tk h).2⟩ :: goRun k M ws es (af1 k M ws es ps tk h).1 (af1 k M ws es ps tk h).2 hs
def endS (ps : Pls) (tk : Tks) : List Ev → Pls × Tks
  | [] => (ps, tk)
  | e :: l => endS e.ps e.tk l
section
variable {k : Nat} {M : Nat → Nat → Str} {ws : List (List Int)} {es : List Int} {ps : Pls} {tk : Tks} {S : Sto} {hs : List Nat} {i : Nat}
theorem log2_small {i : Nat} (h : i ≤ 1000) : txtD (.int (i : Nat)) = true := by
  unfold txtD
  refine decide_eq_true ?_
  rw [Int.natAbs_natCast]
  have := Nat.log2_le_self i
  omega
/-- a walk whose body raises at the place n, or never -/
theorem sx_inv {src : Src} {g : DG} {b : DS} {xb : SXF} {ds : List D} {Q : Exc × Gam × Sto → Prop} (I : Nat → Gam → Sto → Prop) (n : Nat) (hsrc : ∀ i G S, I i G S → src i S = some ds[i]?)
    (step : ∀ i G S d, i < n → ds[i]? = some d → I i G S → ∃ G1 S1 G2 S2, g d G S = some (G1, S1) ∧ xb G1 S1 = none ∧ b G1 S1 = some (.nx, G2, S2) ∧ I (i + 1) G2 S2)
    (last : ∀ G S d, ds[n]? = some d → I n G S → ∃ G1 S1 r, g d G S = some (G1, S1) ∧ xb G1 S1 = some r ∧ Q r) (hn : n < ds.length) :
    ∀ (m i : Nat) (G : Gam) (S : Sto), i + m = n → I i G S → ∃ r, sxLoop src g b xb (m + 1 + (ds.length - n)) i G S = some r ∧ Q r := by
  intro m
  induction m with
  | zero =>
    intro i G S hi h
    have hin : i = n := by omega
    subst hin
    obtain ⟨d, e⟩ : ∃ d, ds[i]? = some d := ⟨ds[i], List.getElem?_eq_getElem hn⟩
    obtain ⟨G1, S1, r, a1, a2, a3⟩ := last G S d e h
    refine ⟨r, ?_, a3⟩
    rw [show 0 + 1 + (ds.length - i) = (ds.length - i) + 1 by omega]
    unfold sxLoop
    rw [hsrc i G S h, e]
    simp only [Option.bind_some, a1, a2]
  | succ m ih =>
    intro i G S hi h
    obtain ⟨d, e⟩ : ∃ d, ds[i]? = some d := ⟨ds[i]'(by omega), List.getElem?_eq_getElem _⟩
    obtain ⟨G1, S1, G2, S2, a1, a2, a3, a4⟩ := step i G S d (by omega) e h
    obtain ⟨r, e2, q⟩ := ih (i + 1) G2 S2 (by omega) a4
    refine ⟨r, ?_, q⟩
    rw [show m + 1 + 1 + (ds.length - n) = (m + 1 + (ds.length - n)) + 1 by omega]
    unfold sxLoop
    rw [hsrc i G S h, e]
    simp only [Option.bind_some, a1, a2, a3]
    exact e2
theorem sx_none {src : Src} {g : DG} {b : DS} {xb : SXF} {ds : List D} (I : Nat → Gam → Sto → Prop) (hsrc : ∀ i G S, I i G S → src i S = some ds[i]?)
    (step : ∀ i G S d, ds[i]? = some d → I i G S → ∃ G1 S1 G2 S2, g d G S = some (G1, S1) ∧ xb G1 S1 = none ∧ b G1 S1 = some (.nx, G2, S2) ∧ I (i + 1) G2 S2) :
    ∀ (m i : Nat) (G : Gam) (S : Sto), i + m = ds.length → I i G S → sxLoop src g b xb (m + 1) i G S = none := by
  intro m
  induction m with
  | zero =>
    intro i G S hi h
    have e : ds[i]? = none := List.getElem?_eq_none (by omega)
    unfold sxLoop
    rw [hsrc i G S h, e]; rfl
  | succ m ih =>
    intro i G S hi h
    obtain ⟨d, e⟩ : ∃ d, ds[i]? = some d := ⟨ds[i]'(by omega), List.getElem?_eq_getElem _⟩
    obtain ⟨G1, S1, G2, S2, a1, a2, a3, a4⟩ := step i G S d e h
    have e2 := ih (i + 1) G2 S2 (by omega) a4
    unfold sxLoop
    rw [hsrc i G S h, e]
    simp only [Option.bind_some, a1, a2, a3]
    exact e2
end
end Vw
set_option maxRecDepth 100000
set_option maxHeartbeats 4000000
namespace Vw
open PySem PySem.Spec L2
theorem listText_le {B : Nat} {ts : List Str} (h : ∀ t ∈ ts, t.length ≤ B) : (listText ts).length ≤ ts.length * (B + 2) + 3 := by
  cases ts with
  | nil => exact Nat.le_trans (by decide : (listText []).length ≤ 3) (Nat.le_add_left _ _)
  | cons t r =>
    have h1 := textFrom_length_pos r 1 (("[" : Str) ++ (if (0 : Nat) > 0 then ", " else "" : String) ++ t) (Nat.succ_pos 0)
    have e : ((("[" : Str) ++ (if (0 : Nat) > 0 then ", " else "" : String) ++ t)).length = 1 + t.length := by
      rw [str_app_len, str_app_len]; rfl
    have hX : (listText (t :: r)).length = (textFrom 0 "[" (t :: r)).length + 1 := by
      show (textFrom 0 "[" (t :: r) ++ "]").length = _
      rw [str_app_len]; rfl
    have hY : (textFrom 0 "[" (t :: r)).length = (textFrom 1 (("[" : Str) ++ (if (0 : Nat) > 0 then ", " else "" : String) ++ t) r).length := rfl
    have hp := piled_le (ts := r) fun x hx => h x (List.mem_cons_of_mem _ hx)
    have h2 := h t List.mem_cons_self
    rw [hX, hY, h1, e, List.length_cons, Nat.succ_mul]
    omega
theorem sm_list {B n C : Nat} {ps : List PyData} (h : SmA B ps) (hn : ps.length ≤ n) (hC : n * (B + 2) + 3 ≤ C) (hd : PyData.depthAll ps ≤ 8) : Sm C (.list ps) ∧ (PyData.list ps).depth = PyData.depthAll ps + 1 := by
  refine ⟨⟨h.sh, h.nd, ?_, ?_⟩, rfl⟩
  · show PyData.depthAll ps + 1 ≤ 10
    omega
  · show (listText (PyData.shownAll ps)).length ≤ C
    have h1 := listText_le h.ln
    rw [h.ct] at h1
    have h2 : ps.length * (B + 2) ≤ n * (B + 2) := Nat.mul_le_mul_right _ hn
    omega
/-- a row of values, each of which can be shown -/
inductive Shows (B d : Nat) : List D → List PyData → Prop where
  | nil : Shows B d [] []
  | cons {x : D} {p : PyData} {xs : List D} {ps : List PyData} : (∀ fl, toP fl x = some p) → Sm B p → p.depth ≤ d → Shows B d xs ps → Shows B d (x :: xs) (p :: ps)
theorem Shows.sm {B d : Nat} (hd : d ≤ 9) : ∀ {xs : List D} {ps : List PyData}, Shows B d xs ps → SmA B ps ∧ PyData.depthAll ps ≤ d
  | _, _, .nil => ⟨smA_nil, Nat.zero_le _⟩
  | _, _, .cons e s h t => ⟨smA_cons s (by omega) (t.sm hd).1, by show max _ (PyData.depthAll _) ≤ d; have := (t.sm hd).2; omega⟩
theorem Shows.toP {B d : Nat} (fl : Nat → Option PyData) : ∀ {xs : List D} {ps : List PyData}, Shows B d xs ps → toPs fl xs = some ps
  | _, _, .nil => rfl
  | _, _, .cons e s h t => by
    show (Vw.toP fl _).bind (fun p => (toPs fl _).map (p :: ·)) = _
    rw [e, t.toP fl]; rfl
theorem Shows.len {B d : Nat} : ∀ {xs : List D} {ps : List PyData}, Shows B d xs ps → ps.length = xs.length
  | _, _, .nil => rfl
  | _, _, .cons e s h t => congrArg (· + 1) t.len
/-- a list of such, itself to be shown -/
theorem Shows.lst {B d n C : Nat} {xs : List D} {ps : List PyData} (t : Shows B d xs ps) (hn : xs.length ≤ n) (hC : n * (B + 2) + 3 ≤ C) (hd : d ≤ 8) : (∀ fl, Vw.toP fl (.lst xs) = some (.list ps)) ∧ Sm C (.list ps) ∧ (PyData.list ps).depth ≤ d + 1 := by
  obtain ⟨a, b⟩ := t.sm (by omega)
  obtain ⟨c, e⟩ := sm_list a (by rw [t.len]; exact hn) hC (by omega)
  exact ⟨fun fl => by show (toPs fl xs).map _ = _; rw [t.toP fl]; rfl, c, by omega⟩
theorem Shows.tup {B d n C : Nat} {xs : List D} {ps : List PyData} (t : Shows B d xs ps) (hn : xs.length ≤ n) (hC : n * (B + 2) + 3 ≤ C) (hd : d ≤ 8) : (∀ fl, Vw.toP fl (.tup xs) = some (.tuple ps)) ∧ Sm C (.tuple ps) ∧ (PyData.tuple ps).depth ≤ d + 1 := by
  obtain ⟨a, b⟩ := t.sm (by omega)
  obtain ⟨c, e⟩ := sm_tuple a (by rw [t.len]; exact hn) hC (by omega)
  exact ⟨fun fl => by show (toPs fl xs).map _ = _; rw [t.toP fl]; rfl, c, by omega⟩
theorem Shows.of {B d : Nat} {α : Type} {f : α → D} {g : α → PyData} : ∀ {l : List α}, (∀ x ∈ l, (∀ fl, Vw.toP fl (f x) = some (g x)) ∧ Sm B (g x) ∧ (g x).depth ≤ d) → Shows B d (l.map f) (l.map g)
  | [], _ => .nil
  | x :: l, h => .cons (h x List.mem_cons_self).1 (h x List.mem_cons_self).2.1 (h x List.mem_cons_self).2.2 (Shows.of fun y hy => h y (List.mem_cons_of_mem _ hy))
section
variable {k : Nat} {M : Nat → Nat → Str} {ws : List (List Int)} {es : List Int} {ps : Pls} {tk : Tks} {S : Sto} {hs : List Nat} {i : Nat}
theorem goRun_one {h : Nat} {x : Str} (hn : nx1 k M ws es ps tk h = some x) : goRun k M ws es ps tk [h] = [⟨h, x, (af1 k M ws es ps tk h).1, (af1 k M ws es ps tk h).2⟩] := by
  unfold goRun; rw [hn]; rfl
end
end Vw
set_option maxRecDepth 100000
set_option maxHeartbeats 4000000
namespace Vw
open PySem PySem.Spec L2
section
variable {k : Nat} {M : Nat → Nat → Str} {ws : List (List Int)} {es : List Int} {ps : Pls} {tk : Tks} {S : Sto} {hs : List Nat}
theorem num_len : ∀ i : Fin 1001, ((toString (i.val : Int) : String) : Str).length ≤ 4 := by decide +kernel
theorem num_sm {n : Nat} (h : n ≤ 1000) : Sm 4 (.int (n : Nat)) := by
  refine ⟨?_, rfl, Nat.zero_le _, ?_⟩
  · have := log2_small h
    unfold txtD at this
    show decide (((n : Nat) : Int).natAbs.log2 < 1920) = true
    rw [Int.natAbs_natCast]
    have := Nat.log2_le_self n
    exact decide_eq_true (by omega)
  · exact num_len ⟨n, by omega⟩
theorem lit_sm {w : Str} (h : (reprText w).length ≤ 10) : Sm 10 (.str w) := ⟨rfl, rfl, Nat.zero_le _, h⟩
end
end Vw
set_option maxRecDepth 100000
set_option maxHeartbeats 4000000
namespace Vw
open PySem PySem.Spec PyProof.Rows L2
end Vw
set_option maxRecDepth 100000
set_option maxHeartbeats 4000000
namespace Vw
open PySem PySem.Spec PyProof.Rows L2
end Vw
set_option maxRecDepth 100000
set_option maxHeartbeats 4000000
namespace Vw
open PySem PySem.Spec L2
def KD : List Key := [.inr ("deep" : Str), .inr ("state" : Str)]
/-- the cells below N are the deck's -/
structure Deck (N : Nat) (S : Sto) : Prop where
  ex : ∃ (n : Nat) (far : List Int) (st : Int), S[1]? = some (Cell.dic KD [.loc n, .int st]) ∧ S[n]? = some (Cell.lst (far.map D.int)) ∧ n ≠ 1 ∧ n < N ∧ 1 < N ∧ (∀ x ∈ far, 0 ≤ x) ∧ far.length ≤ 1000 ∧ 0 ≤ st
structure KeepN (N : Nat) (S S' : Sto) : Prop where
  len : S'.length = S.length
  at_ : ∀ b, N ≤ b → S'[b]? = S[b]?
theorem KeepN.refl {N : Nat} {S : Sto} : KeepN N S S := ⟨rfl, fun _ _ => rfl⟩
theorem KeepN.trans {N : Nat} {S S1 S2 : Sto} (h : KeepN N S S1) (h2 : KeepN N S1 S2) : KeepN N S S2 := ⟨h2.len.trans h.len, fun b hb => (h2.at_ b hb).trans (h.at_ b hb)⟩
theorem KeepN.set {N n : Nat} {S : Sto} {c : Cell} (h : n < N) : KeepN N S (S.set n c) := ⟨List.length_set, fun b hb => List.getElem?_set_ne (by omega)⟩
end Vw
set_option maxRecDepth 100000
set_option maxHeartbeats 4000000
namespace Vw
open PySem PySem.Spec L2
end Vw
set_option maxRecDepth 100000
set_option maxHeartbeats 4000000
namespace Vw
open PySem PySem.Spec L2
def KT : List Key := [.inr ("far" : Str), .inr ("mixed" : Str), .inr ("turn" : Str)]
/-- the cells below N are the deck's -/
structure Tek (N : Nat) (S : Sto) : Prop where
  ex : ∃ (n : Nat) (far : List Int) (mx tn : Int), S[1]? = some (Cell.dic KT [.loc n, .int mx, .int tn]) ∧ S[n]? = some (Cell.lst (far.map D.int)) ∧ n ≠ 1 ∧ n < N ∧ 1 < N ∧ (∀ x ∈ far, 0 ≤ x) ∧ far.length ≤ 1000
end Vw
set_option maxRecDepth 100000
set_option maxHeartbeats 4000000
namespace Vw
open PySem PySem.Spec L2
end Vw
set_option maxRecDepth 100000
set_option maxHeartbeats 4000000
namespace Vw
open PySem PySem.Spec L2
/-- what lies behind the deck's cells stays as it is, and more may come -/
structure KeepG (N : Nat) (S S' : Sto) : Prop where
  len : S.length ≤ S'.length
  at_ : ∀ b, N ≤ b → b < S.length → S'[b]? = S[b]?
theorem KeepG.refl {N : Nat} {S : Sto} : KeepG N S S := ⟨Nat.le_refl _, fun _ _ _ => rfl⟩
theorem KeepN.grow {N : Nat} {S S' : Sto} (h : KeepN N S S') : KeepG N S S' := ⟨by rw [h.len]; omega, fun b hb _ => h.at_ b hb⟩
theorem KeepG.trans {N : Nat} {S S1 S2 : Sto} (h : KeepG N S S1) (h2 : KeepG N S1 S2) : KeepG N S S2 := ⟨Nat.le_trans h.len h2.len, fun b hb hl => (h2.at_ b hb (by have := h.len; omega)).trans (h.at_ b hb hl)⟩
theorem KeepG.app {N : Nat} {S R : Sto} : KeepG N S (S ++ R) := ⟨by rw [List.length_append]; omega, fun b _ hl => List.getElem?_append_left hl⟩
theorem KeepG.put {N a : Nat} {S S' : Sto} {c : Cell} (h : KeepG N S S') (ha : S.length ≤ a) : KeepG N S (S'.set a c) := ⟨by rw [List.length_set]; exact h.len, fun b hb hl => by rw [List.getElem?_set_ne (by omega)]; exact h.at_ b hb hl⟩
theorem Deck.app {N : Nat} {S R : Sto} (b : Deck N S) : Deck N (S ++ R) := by
  obtain ⟨n, far, st, q1, qn, r⟩ := b.ex
  exact ⟨n, far, st, by rw [List.getElem?_append_left (List.getElem?_eq_some_iff.mp q1).1]; exact q1, by rw [List.getElem?_append_left (List.getElem?_eq_some_iff.mp qn).1]; exact qn, r⟩
theorem Deck.put {N a : Nat} {S : Sto} {c : Cell} (b : Deck N S) (h : N ≤ a) : Deck N (S.set a c) := by
  obtain ⟨n, far, st, q1, qn, h1, h2, h3, r⟩ := b.ex
  exact ⟨n, far, st, by rw [List.getElem?_set_ne (by omega)]; exact q1, by rw [List.getElem?_set_ne (by omega)]; exact qn, h1, h2, h3, r⟩
end Vw
set_option maxRecDepth 100000
set_option maxHeartbeats 4000000
namespace Vw
open PySem PySem.Spec L2
end Vw
set_option maxRecDepth 100000
set_option maxHeartbeats 4000000
namespace Vw
open PySem PySem.Spec L2
/-- the pairs below row i, and of row i those before j, are drawn -/
structure DoneL (k i j : Nat) (M : Nat → Nat → Str) : Prop where
  dia : ∀ a, a < k → M a a = wDash
  pair : ∀ a b, a < b → b < k → (b < i ∨ (b = i ∧ a < j)) → PairOk four (M a b) (M b a)
theorem DoneL.step {k i j : Nat} {M : Nat → Nat → Str} {x y : Str} (d : DoneL k i j M) (hji : j < i) (hi : i < k) (p : PairOk four y x) : DoneL k i (j + 1) (upd2 (upd2 M i j x) j i y) := by
  have e : ∀ a b, upd2 (upd2 M i j x) j i y a b = if a = j ∧ b = i then y else if a = i ∧ b = j then x else M a b := fun a b => by
    unfold upd2 upd1
    by_cases h1 : a = j
    · subst h1
      by_cases h2 : b = i
      · subst h2; simp
      · have : ¬ a = i := by omega
        simp [h2, this]
    · by_cases h2 : a = i
      · subst h2
        by_cases h3 : b = j <;> simp [h1, h3]
      · simp [h1, h2]
  refine ⟨fun a ha => ?_, fun a b hab hb h => ?_⟩
  · rw [e, if_neg (by omega), if_neg (by omega)]; exact d.dia a ha
  · by_cases h1 : a = j ∧ b = i
    · obtain ⟨rfl, rfl⟩ := h1
      rw [e, e, if_pos ⟨rfl, rfl⟩, if_neg (by omega), if_pos ⟨rfl, rfl⟩]
      exact p
    · rw [e, e, if_neg h1, if_neg (by omega), if_neg (by omega), if_neg (by omega)]
      exact d.pair a b hab hb (by omega)
end Vw
set_option maxRecDepth 100000
set_option maxHeartbeats 4000000
namespace Vw
open PySem PySem.Spec L2
end Vw
set_option maxRecDepth 100000
set_option maxHeartbeats 4000000
namespace Vw
open PySem PySem.Spec L2
theorem Tek.app {N : Nat} {S R : Sto} (b : Tek N S) : Tek N (S ++ R) := by
  obtain ⟨n, far, mx, tn, q1, qn, r⟩ := b.ex
  exact ⟨n, far, mx, tn, by rw [List.getElem?_append_left (List.getElem?_eq_some_iff.mp q1).1]; exact q1, by rw [List.getElem?_append_left (List.getElem?_eq_some_iff.mp qn).1]; exact qn, r⟩
theorem Tek.put {N a : Nat} {S : Sto} {c : Cell} (b : Tek N S) (h : N ≤ a) : Tek N (S.set a c) := by
  obtain ⟨n, far, mx, tn, q1, qn, h1, h2, h3, r⟩ := b.ex
  exact ⟨n, far, mx, tn, by rw [List.getElem?_set_ne (by omega)]; exact q1, by rw [List.getElem?_set_ne (by omega)]; exact qn, h1, h2, h3, r⟩
end Vw
set_option maxRecDepth 100000
set_option maxHeartbeats 4000000
namespace Vw
open PySem PySem.Spec L2
structure DoneQ (ps : List (Str × Str)) (k i j : Nat) (M : Nat → Nat → Str) : Prop where
  dia : ∀ a, a < k → M a a = wDash
  pair : ∀ a b, a < b → b < k → (a < i ∨ (a = i ∧ b < j)) → (M a b, M b a) ∈ ps
theorem DoneQ.step {ps : List (Str × Str)} {k i j : Nat} {M : Nat → Nat → Str} {x y : Str} (d : DoneQ ps k i j M) (hij : i < j) (hj : j < k) (p : (x, y) ∈ ps) : DoneQ ps k i (j + 1) (upd2 (upd2 M i j x) j i y) := by
  have e : ∀ a b, upd2 (upd2 M i j x) j i y a b = if a = j ∧ b = i then y else if a = i ∧ b = j then x else M a b := fun a b => by
    unfold upd2 upd1
    by_cases h1 : a = j
    · subst h1
      by_cases h2 : b = i
      · subst h2; simp
      · have : ¬ a = i := by omega
        simp [h2, this]
    · by_cases h2 : a = i
      · subst h2
        by_cases h3 : b = j <;> simp [h1, h3]
      · simp [h1, h2]
  refine ⟨fun a ha => ?_, fun a b hab hb h => ?_⟩
  · rw [e, if_neg (by omega), if_neg (by omega)]; exact d.dia a ha
  · by_cases h1 : a = i ∧ b = j
    · obtain ⟨rfl, rfl⟩ := h1
      rw [e, e, if_neg (by omega), if_pos ⟨rfl, rfl⟩, if_pos ⟨rfl, rfl⟩]
      exact p
    · rw [e, e, if_neg (by omega), if_neg h1, if_neg (by omega), if_neg (by omega)]
      exact d.pair a b hab hb (by omega)
end Vw
set_option maxRecDepth 100000
set_option maxHeartbeats 4000000
namespace Vw
open PySem PySem.Spec L2
def OkP (ps : List (Str × Str)) : Prop := ∀ p ∈ ps, (p.1 = wEven ↔ p.2 = wEven) ∧ p.1 ∈ six ∧ p.2 ∈ six
theorem OkP.app {ps qs : List (Str × Str)} (h : OkP ps) (h2 : OkP qs) : OkP (ps ++ qs) := fun p hp => (List.mem_append.mp hp).elim (h p) (h2 p)
theorem OkP.rep {p : Str × Str} {n : Nat} (h : OkP [p]) : OkP (List.replicate n p) := fun q hq => by rw [List.eq_of_mem_replicate hq]; exact h p (.head _)
instance {ps : List (Str × Str)} : Decidable (OkP ps) := inferInstanceAs (Decidable (∀ p ∈ ps, (p.1 = wEven ↔ p.2 = wEven) ∧ p.1 ∈ six ∧ p.2 ∈ six))
end Vw
set_option maxRecDepth 100000
set_option maxHeartbeats 4000000
namespace Vw
open PySem PySem.Spec PyProof.Rows L2 RZ
open PySem.Sem (wp)
end Vw
set_option maxRecDepth 100000
set_option maxHeartbeats 4000000
namespace Vw
open PySem PySem.Spec PyProof.Rows L2
end Vw
set_option maxRecDepth 100000
set_option maxHeartbeats 4000000
namespace Vw
open PySem PySem.Spec PyProof.Rows L2
end Vw
set_option maxRecDepth 100000
set_option maxHeartbeats 4000000
namespace Vw
open PySem PySem.Spec L2
end Vw
set_option maxRecDepth 100000
set_option maxHeartbeats 4000000
namespace Vw
open PySem PySem.Spec L2
abbrev wPass : Str := "pass"
abbrev wSlip : Str := "slip"
section
variable {k : Nat} {M : Nat → Nat → Str} {ws : List (List Int)} {es : List Int} {S : Sto}
theorem ways_get {i : Nat} (L : Lk k M ws es) (hi : i < k) : ws[i]? = some (ws.getD i []) := by
  have : i < ws.length := by rw [L.ways.1]; exact hi
  rw [List.getD_eq_getElem?_getD, List.getElem?_eq_getElem this]; rfl
/-- no word pass or slip, no even one of an early hand -/
def SafeP (k : Nat) (M : Nat → Nat → Str) (es : List Int) : Prop := ∀ i j, i < k → j < k → j ≠ i → M i j ≠ wPass ∧ M i j ≠ wSlip ∧ ¬(M i j = wEven ∧ (i : Int) ∈ es)
end
end Vw
set_option maxRecDepth 100000
set_option maxHeartbeats 4000000
namespace Vw
open PySem PySem.Spec L2
theorem rng1_okT {fs : DA} {k : Nat} {G : Gam} {S S1 : Sto} (h : fs G S = some ([.int k], S1)) (hk : k ≤ 1000000) : dRng1 fs G S = some (fixS (rngD 0 (k : Int)), k + 1, S1) := by
  unfold dRng1 dRng
  rw [h]
  simp only [Option.bind_some, one1, if_true]
  rw [if_pos (by omega), rngD_len]
end Vw
set_option maxRecDepth 100000
set_option maxHeartbeats 4000000
namespace Vw
open PySem PySem.Spec L2
theorem cut_last {xs : List D} : cutD xs none (some (-1)) = xs.dropLast := by
  have e : HT.sIx xs.length xs.length (some (-1)) = xs.length - 1 := by
    unfold HT.sIx
    dsimp only
    rw [if_pos (by decide)]
    omega
  unfold cutD
  rw [HT.sIx_none, List.drop_zero, Nat.sub_zero, List.dropLast_eq_take, e]
section
variable {k : Nat} {M : Nat → Nat → Str} {ws : List (List Int)} {es : List Int} {S : Sto}
theorem others_nodup {k i : Nat} : (others k i).Nodup := by
  unfold others
  exact List.Pairwise.map (fun j : Nat => (j : Int)) (fun (a b : Nat) (h : a ≠ b) (q : (a : Int) = b) => h (by omega)) (List.Pairwise.filter _ List.nodup_range)
end
end Vw
set_option maxRecDepth 100000
set_option maxHeartbeats 4000000
namespace Vw
open PySem PySem.Spec L2
def prs (i j : Nat) : List (Nat × Nat) := [(i, j), (j, i)]
end Vw
set_option maxRecDepth 100000
set_option maxHeartbeats 4000000
namespace Vw
open PySem PySem.Spec L2
theorem natL_len (l : List Nat) : (natL l).length = l.length := List.length_map _
end Vw
set_option maxRecDepth 100000
set_option maxHeartbeats 4000000
namespace Vw
open PySem PySem.Spec L2
/-- rows of their own somewhere in the store -/
structure GridW (L k : Nat) (M : Nat → Nat → Str) (S : Sto) : Prop where
  row : ∀ r, r < k → S[L + r]? = some (Cell.lst (rowD k (M r)))
  top : S[L + k]? = some (Cell.lst ((List.range k).map fun r => D.loc (L + r)))
theorem GridW.keep {L k N : Nat} {M : Nat → Nat → Str} {S S' : Sto} (g : GridW L k M S) (h : KeepG N S S') (hN : N ≤ L) : GridW L k M S' :=
  ⟨fun r hr => (h.at_ _ (by omega) (List.getElem?_eq_some_iff.mp (g.row r hr)).1).trans (g.row r hr), (h.at_ _ (by omega) (List.getElem?_eq_some_iff.mp g.top).1).trans g.top⟩
theorem GridW.put {L k i j : Nat} {M : Nat → Nat → Str} {S : Sto} {w : Str} (g : GridW L k M S) (hi : i < k) (hj : j < k) : opPut (.loc (L + i)) (.int j) (.str w) S = some (S.set (L + i) (Cell.lst (rowD k (upd1 (M i) j w)))) ∧ GridW L k (upd2 M i j w) (S.set (L + i) (Cell.lst (rowD k (upd1 (M i) j w)))) := by
  have hlt := (List.getElem?_eq_some_iff.mp (g.row i hi)).1
  refine ⟨?_, fun r hr => ?_, ?_⟩
  · show (match S[L + i]? with | some (Cell.lst ds) => (match ixN ds.length (j : Int) with | some j => some (S.set (L + i) (Cell.lst (ds.set j (.str w)))) | none => none) | some (Cell.dic ks ds) => _ | none => none) = _
    rw [g.row i hi]
    simp only
    rw [rowD_len, show ixN k (j : Int) = some j by unfold ixN; rw [if_pos (by omega), if_pos (by omega)]; simp]
    simp only [rowD_set]
  · by_cases h : r = i
    · subst h
      rw [List.getElem?_set_self hlt]
      simp [upd2]
    · rw [List.getElem?_set_ne (by omega), g.row r hr]
      simp [upd2, h]
  · rw [List.getElem?_set_ne (by omega)]
    exact g.top
structure MatOk (k : Nat) (M : Nat → Nat → Str) : Prop where
  dia : ∀ a, a < k → M a a = wDash
  sym : SymE k M
  six : ∀ a b, a < k → b < k → M a b ∈ six
theorem MatOk.set {k i j : Nat} {M : Nat → Nat → Str} {x y : Str} (m : MatOk k M) (hij : i ≠ j) (o : OkP [(x, y)]) : MatOk k (upd2 (upd2 M i j x) j i y) := by
  obtain ⟨o1, o2, o3⟩ := o (x, y) (.head _)
  have e : ∀ a b, upd2 (upd2 M i j x) j i y a b = if a = j ∧ b = i then y else if a = i ∧ b = j then x else M a b := fun a b => by
    unfold upd2 upd1
    by_cases h1 : a = j
    · subst h1
      by_cases h2 : b = i
      · subst h2; simp
      · have : ¬ a = i := by omega
        simp [h2, this]
    · by_cases h2 : a = i
      · subst h2
        by_cases h3 : b = j <;> simp [h1, h3]
      · simp [h1, h2]
  refine ⟨fun a ha => ?_, fun a b ha hb h => ?_, fun a b ha hb => ?_⟩
  · rw [e, if_neg (by omega), if_neg (by omega)]; exact m.dia a ha
  · rw [e] at h ⊢
    by_cases h1 : a = j ∧ b = i
    · rw [if_pos h1] at h
      rw [if_neg (by omega), if_pos ⟨h1.2, h1.1⟩]
      exact o1.mpr h
    · rw [if_neg h1] at h
      by_cases h2 : a = i ∧ b = j
      · rw [if_pos h2] at h
        rw [if_pos ⟨h2.2, h2.1⟩]
        exact o1.mp h
      · rw [if_neg h2] at h
        rw [if_neg (by omega), if_neg (by omega)]
        exact m.sym a b ha hb h
  · rw [e]
    split
    · exact o3
    · split
      · exact o2
      · exact m.six a b ha hb
end Vw
set_option maxRecDepth 100000
set_option maxHeartbeats 4000000
namespace Vw
open PySem PySem.Spec L2
section
variable {k : Nat} {M : Nat → Nat → Str} {ws : List (List Int)} {es own : List Int} {ps ps' : Pls} {tk tk' : Tks} {S : Sto} {i c : Nat} {w : List Int} {p p' q : Str × Nat} {x : Str} {e : Ev} {evs : List Ev} {xs ys : List Str} {f g : Tks → Tks}
theorem goRun_app : ∀ (hs hs2 : List Nat) (ps : Pls) (tk : Tks), (goRun k M ws es ps tk hs).length = hs.length → goRun k M ws es ps tk (hs ++ hs2) = goRun k M ws es ps tk hs ++ goRun k M ws es (endS ps tk (goRun k M ws es ps tk hs)).1 (endS ps tk (goRun k M ws es ps tk hs)).2 hs2
  | [], _, _, _, _ => rfl
  | a :: hs, hs2, ps, tk, hf => by
    unfold goRun at hf
    cases hn : nx1 k M ws es ps tk a with
    | none => rw [hn] at hf; cases hf
    | some x =>
      rw [hn] at hf
      have ih := goRun_app hs hs2 _ _ (Nat.succ.inj hf)
      have e : ∀ l, goRun k M ws es ps tk (a :: l) = ⟨a, x, (af1 k M ws es ps tk a).1, (af1 k M ws es ps tk a).2⟩ :: goRun k M ws es (af1 k M ws es ps tk a).1 (af1 k M ws es ps tk a).2 l := fun l => by
        conv => lhs; unfold goRun
        rw [hn]
      rw [List.cons_append, e, e]
      show _ :: goRun k M ws es _ _ (hs ++ hs2) = _ :: (_ ++ _)
      rw [ih]
      rfl
theorem endS_two : ∀ (a b : List Ev) (ps : Pls) (tk : Tks), endS ps tk (a ++ b) = endS (endS ps tk a).1 (endS ps tk a).2 b
  | [], _, _, _ => rfl
  | e :: a, b, _, _ => endS_two a b e.ps e.tk
def LT (k : Nat) (M : Nat → Nat → Str) (ws : List (List Int)) (es : List Int) (c : Nat) (p : Str × Nat) (xs : List Str) (p' : Str × Nat) (f : Tks → Tks) : Prop :=
  ∀ ps tk, StP k M ws ps tk → Alone k c ps p → ∃ evs, goRun k M ws es ps tk (List.replicate xs.length c) = evs ∧ evs.length = xs.length ∧ evs.map (·.x) = xs ∧ (∀ e ∈ evs, e.i = c ∧ ∃ p, Alone k c e.ps p) ∧
    (endS ps tk evs).2 = f tk ∧ StP k M ws (endS ps tk evs).1 (endS ps tk evs).2 ∧ Alone k c (endS ps tk evs).1 p'
theorem LT.comp {p2 : Str × Nat} (h1 : LT k M ws es c p xs p' f) (h2 : LT k M ws es c p' ys p2 g) : LT k M ws es c p (xs ++ ys) p2 (fun tk => g (f tk)) := by
  intro ps tk s a
  obtain ⟨e1, g1, l1, x1, o1, t1, s1, a1⟩ := h1 ps tk s a
  obtain ⟨e2, g2, l2, x2, o2, t2, s2, a2⟩ := h2 _ _ s1 a1
  have hg : goRun k M ws es ps tk (List.replicate (xs ++ ys).length c) = e1 ++ e2 := by
    rw [List.length_append, ← List.replicate_append_replicate, goRun_app _ _ _ _ (by rw [g1, l1, List.length_replicate]), g1, g2]
  refine ⟨e1 ++ e2, hg, by rw [List.length_append, List.length_append, l1, l2], by rw [List.map_append, x1, x2], fun e he => ?_, ?_, ?_, ?_⟩
  · rcases List.mem_append.mp he with h | h
    · exact o1 e h
    · exact o2 e h
  · rw [endS_two, t2, t1]
  · rw [endS_two]; exact s2
  · rw [endS_two]; exact a2
theorem LT.step (L : Lk k M ws es) (h2 : 2 ≤ k) (hc : c < k) (hw : ws[c]? = some w)
    (h : ∀ ps tk j q, Alone k c ps p → (p.1 ∈ kinds4 → w[p.2]? = some ((j : Nat) : Int) ∧ j < k ∧ ps[j]? = some q) → nextW k M es ps tk c p j q = some x ∧ placeS k M es ps tk w c p j q = p') : LT k M ws es c p [x] p' (fun tk => tokS M tk w c p) := by
  intro ps tk s a
  obtain ⟨a1, a2, a3⟩ := at1 L s hc
  have ew : wAt ws c = w := getD_at hw
  have ep : pAt ps c = p := getD_at a.1
  rw [ew, ep] at a3
  obtain ⟨n1, n2⟩ := h ps tk (jAt ws ps c) (pAt ps (jAt ws ps c)) a a3
  have hn : nx1 k M ws es ps tk c = some x := by unfold nx1; rw [ep]; exact n1
  have ha : af1 k M ws es ps tk c = (ps.set c p', tokS M tk w c p) := by rw [af_eq L s hc hn, ew, ep, n2]
  have al : Alone k c (ps.set c p') p' := ⟨by rw [List.getElem?_set_self (List.getElem?_eq_some_iff.mp a.1).1], fun j hj hne => by
    rw [List.getElem?_set_ne (fun h => hne h.symm)]
    exact a.2 j hj hne⟩
  have sp := af_stp L h2 s hc
  rw [ha] at sp
  refine ⟨[⟨c, x, ps.set c p', tokS M tk w c p⟩], ?_, rfl, rfl, fun e he => ?_, rfl, sp, al⟩
  · show goRun k M ws es ps tk [c] = _
    rw [goRun_one hn, ha]
  · rw [List.mem_singleton.mp he]; exact ⟨rfl, p', al⟩
end
end Vw
set_option maxRecDepth 100000
set_option maxHeartbeats 4000000
namespace Vw
open PySem PySem.Spec L2
theorem hold_hand {tk : Tks} {a j x y : Nat} : hold (handT tk a j) x y = if x = min a j ∧ y = max a j then (hold tk x y).map fun _ => (j : Int) else hold tk x y := by
  unfold hold handT
  induction tk with
  | nil => by_cases h : x = min a j ∧ y = max a j <;> simp [h]
  | cons t tk ih =>
    by_cases ht : isTok x y t = true
    · have hxy : t.1.1 = x ∧ t.1.2 = y := of_decide_eq_true ht
      have h1 : isTok x y (t.1, (if isTok (min a j) (max a j) t = true then j else t.2)) = true := ht
      rw [List.map_cons, List.filter_cons, List.filter_cons, if_pos h1, if_pos ht, List.map_cons, List.map_cons, ih]
      by_cases h : x = min a j ∧ y = max a j
      · rw [if_pos h, if_pos h]
        have : isTok (min a j) (max a j) t = true := decide_eq_true ⟨hxy.1.trans h.1, hxy.2.trans h.2⟩
        simp [this]
      · rw [if_neg h, if_neg h]
        have : isTok (min a j) (max a j) t = false := decide_eq_false fun q => h ⟨hxy.1.symm.trans q.1, hxy.2.symm.trans q.2⟩
        simp [this]
    · have h1 : ¬ isTok x y (t.1, (if isTok (min a j) (max a j) t = true then j else t.2)) = true := ht
      rw [List.map_cons, List.filter_cons, List.filter_cons, if_neg h1, if_neg ht]
      exact ih
def wI (ws : List (List Int)) (h i : Nat) : Nat := (wAt ws i).idxOf (h : Int)
def qI (M : Nat → Nat → Str) (ws : List (List Int)) (h i : Nat) : Nat := (evL M (wAt ws i) i).idxOf (h : Int)
def tokB (tk : Tks) (h i : Nat) : Bool := headIs (hold tk (min i h) (max i h)) (i : Int)
section
variable {k : Nat} {M : Nat → Nat → Str} {ws : List (List Int)} {es : List Int} {ps : Pls} {tk : Tks} {h a i : Nat} {x : Str}
theorem tok_other (hia : i ≠ a) (hha : h ≠ a) {w : List Int} {P : Str × Nat} : tokB (tokS M tk w a P) h i = tokB tk h i := by
  unfold tokS
  split
  · unfold tokB
    rw [hold_hand, if_neg (by omega)]
  · rfl
theorem wAt_facts (L : Lk k M ws es) (hi : i < k) (hh : h < k) (hne : h ≠ i) : (wAt ws i).Nodup ∧ (h : Int) ∈ wAt ws i ∧ wI ws h i < (wAt ws i).length ∧ (wAt ws i).length + 1 = k := by
  have hw := ways_get L hi
  have hp := L.ways.2 i _ hw
  have hm : (h : Int) ∈ wAt ws i := hp.mem_iff.mpr (mem_others hh hne)
  exact ⟨hp.nodup_iff.mpr others_nodup, hm, List.idxOf_lt_length_of_mem hm, L.wlen hi hw⟩
theorem early_none (L : Lk k M ws es) (s : SafeP k M es) (ha : a < k) (he : (a : Int) ∈ es) : evL M (wAt ws a) a = [] := by
  unfold evL
  rw [List.filter_eq_nil_iff]
  intro z hz q
  obtain ⟨j, rfl, hj, hne⟩ := others_mem ((L.ways.2 a _ (ways_get L ha)).mem_iff.mp hz)
  rw [Int.toNat_natCast] at q
  exact (s a j ha hj hne).2.2 ⟨of_decide_eq_true q, he⟩
theorem begun_wish (L : Lk k M ws es) (s : SafeP k M es) (ha : a < k) : begunP es (evL M (wAt ws a) a) a = (("wish" : Str), 0) := by
  unfold begunP
  rw [if_neg]
  intro q
  have q := of_decide_eq_true q
  exact q.2 (early_none L s ha q.1)
/-- a step of hand h itself -/
theorem own_ok (L : Lk k M ws es) (s : SafeP k M es) (st : StP k M ws ps tk) (na : (pAt ps h).1 ≠ ("anew" : Str)) (hh : h < k) (hn : nx1 k M ws es ps tk h = some x) :
    let P := pAt ps h
    let P' := placeS k M es ps tk (wAt ws h) h P (jAt ws ps h) (pAt ps (jAt ws ps h))
    let tk' := tokS M tk (wAt ws h) h P
    (x = ("raise" : Str) → tk' = tk) ∧ (x = ("enter" : Str) → P.1 = ("look" : Str)) ∧
      (x ≠ ("raise" : Str) → (P'.1 = ("hand" : Str) → P.1 = ("hand" : Str)) ∧ (P'.1 = ("look" : Str) → P.1 = ("hand" : Str) ∨ (P.1 = ("look" : Str) ∧ tk' = tk))) ∧ P'.1 ≠ ("anew" : Str) := by
  intro P P' tk'
  obtain ⟨hw, hp, hj⟩ := at1 L st hh
  have o := st.at_ h _ _ hw hp
  have hn' : nextW k M es ps tk h P (jAt ws ps h) (pAt ps (jAt ws ps h)) = some x := hn
  have same : P.1 ≠ ("hand" : Str) → tk' = tk := fun q => by
    show tokS M tk (wAt ws h) h P = _
    unfold tokS
    rw [if_neg q]
  have rest : ∀ {n : Nat} {w : Str}, P' = (w, n) → w ≠ ("look" : Str) → w ≠ ("hand" : Str) → w ≠ ("anew" : Str) → x ≠ ("raise" : Str) → (x = ("enter" : Str) → P.1 = ("look" : Str)) → (x = ("raise" : Str) → tk' = tk) ∧ (x = ("enter" : Str) → P.1 = ("look" : Str)) ∧
      (x ≠ ("raise" : Str) → (P'.1 = ("hand" : Str) → P.1 = ("hand" : Str)) ∧ (P'.1 = ("look" : Str) → P.1 = ("hand" : Str) ∨ (P.1 = ("look" : Str) ∧ tk' = tk))) ∧ P'.1 ≠ ("anew" : Str) := fun {n w} e h1 h2 h3 h4 h5 =>
    ⟨fun q => absurd q h4, h5, fun _ => ⟨fun q => by rw [e] at q; exact absurd q h2, fun q => by rw [e] at q; exact absurd q h1⟩, by rw [e]; exact h3⟩
  rcases step_cases (w := wAt ws h) o.kind hn' with ⟨e, hx, hr⟩ | ⟨e, hx, hr⟩ | ⟨e, hx, hr⟩ | ⟨e, hx, hr⟩ | ⟨e, hx, hr⟩ | ⟨e, hx, hr⟩ | ⟨e, hx, h1, hr⟩ | ⟨e, hx, h1, hr⟩ | ⟨e, hx, h1, hr⟩ | ⟨e, hx, h1, hr⟩ | ⟨e, hx, hr⟩
  · exact rest (hr.trans (begun_wish L s hh)) (by decide) (by decide) (by decide) (by rw [hx]; decide) (fun q => by rw [hx] at q; exact absurd q (by decide))
  · refine ⟨fun _ => same (by rw [show P.1 = _ from e]; decide), fun q => by rw [hx] at q; exact absurd q (by decide), fun q => absurd hx q, ?_⟩
    rw [show P' = _ from hr]
    unfold raisedP
    split
    · show ("hand" : Str) ≠ "anew"; decide
    · show ("look" : Str) ≠ "anew"; decide
  · exact rest hr (by decide) (by decide) (by decide) (by rw [hx]; decide) (fun q => by rw [hx] at q; exact absurd q (by decide))
  · refine ⟨fun q => by rw [hx] at q; exact absurd q (by decide), fun q => by rw [hx] at q; exact absurd q (by decide), fun _ => ⟨fun _ => e, fun _ => .inl e⟩, ?_⟩
    rw [show P' = _ from hr]
    unfold handP
    split
    · show ("hand" : Str) ≠ "anew"; decide
    · split
      · show ("wish" : Str) ≠ "anew"; decide
      · show ("look" : Str) ≠ "anew"; decide
  · exact rest hr (by decide) (by decide) (by decide) (by rw [hx]; decide) (fun q => by rw [hx] at q; exact absurd q (by decide))
  · obtain ⟨hj1, hj2, _⟩ := hj (by rw [e]; decide)
    have hns : M h (jAt ws ps h) ≠ ("slip" : Str) := by
      obtain ⟨m, e1, hm2, hne2⟩ := others_mem ((L.ways.2 h _ (ways_get L hh)).mem_iff.mp (List.mem_of_getElem? hj1))
      have : jAt ws ps h = m := by omega
      rw [this]
      exact (s h m hh hm2 hne2).2.1
    rw [if_neg (fun q => hns (of_decide_eq_true q)), begun_wish L s hh] at hr
    exact rest hr (by decide) (by decide) (by decide) (by rw [hx]; decide) (fun q => by rw [hx] at q; exact absurd q (by decide))
  · exact absurd e na
  · exact absurd e na
  · exact rest hr (by decide) (by decide) (by decide) (by rw [hx]; decide) (fun _ => e)
  · exact ⟨fun q => by rw [hx] at q; exact absurd q (by decide), fun q => by rw [hx] at q; exact absurd q (by decide), fun _ => ⟨fun q => by rw [show P' = _ from hr] at q; exact absurd q (by show ¬ ("look" : Str) = "hand"; decide), fun _ => .inr ⟨e, same (by rw [show P.1 = _ from e]; decide)⟩⟩, by rw [show P' = _ from hr]; show ("look" : Str) ≠ "anew"; decide⟩
  · exact rest hr (by decide) (by decide) (by decide) (by rw [hx]; decide) (fun q => by rw [hx] at q; exact absurd q (by decide))
end
section
variable {k : Nat} {M : Nat → Nat → Str} {ws : List (List Int)} {es : List Int} {h : Nat}
theorem pAt_set {ps : Pls} {a i : Nat} {P : Str × Nat} (ha : a < ps.length) : pAt (ps.set a P) i = if i = a then P else pAt ps i := by
  unfold pAt
  rw [List.getD_eq_getElem?_getD, List.getD_eq_getElem?_getD]
  by_cases q : i = a
  · subst q
    rw [if_pos rfl, List.getElem?_set_self ha]; rfl
  · rw [if_neg q, List.getElem?_set_ne (fun z => q z.symm)]
end
end Vw
set_option maxRecDepth 100000
set_option maxHeartbeats 4000000
namespace Vw
open PySem PySem.Spec L2
end Vw
set_option maxRecDepth 100000
set_option maxHeartbeats 4000000
namespace Vw
open PySem PySem.Spec L2
end Vw
set_option maxRecDepth 100000
set_option maxHeartbeats 4000000
namespace Vw
open PySem PySem.Spec L2
/-- a hand goes on till its place's word is g -/
inductive Gw (k : Nat) (M : Nat → Nat → Str) (ws : List (List Int)) (es : List Int) (c : Nat) (g : Str) : Nat → Pls → Tks → Pls → Tks → Prop
  | nil {ps : Pls} {tk : Tks} : Gw k M ws es c g 0 ps tk ps tk
  | step {n : Nat} {ps : Pls} {tk : Tks} {x : Str} {ps' : Pls} {tk' : Tks} : (pAt ps c).1 ≠ g → nx1 k M ws es ps tk c = some x → Gw k M ws es c g n (af1 k M ws es ps tk c).1 (af1 k M ws es ps tk c).2 ps' tk' → Gw k M ws es c g (n + 1) ps tk ps' tk'
section
variable {k : Nat} {M : Nat → Nat → Str} {ws : List (List Int)} {es : List Int} {ps p1 p2 ps' : Pls} {tk t1 t2 tk' : Tks} {S : Sto} {c j n m t s : Nat} {g x : Str} {p q : Str × Nat}
theorem Gw.trans (a : Gw k M ws es c g n ps tk p1 t1) (b : Gw k M ws es c g m p1 t1 p2 t2) : Gw k M ws es c g (m + n) ps tk p2 t2 := by
  induction a with
  | nil => exact b
  | step h1 h2 _ ih => exact .step h1 h2 (ih b)
theorem goRun_cons {hs : List Nat} (h : nx1 k M ws es ps tk c = some x) : goRun k M ws es ps tk (c :: hs) = ⟨c, x, (af1 k M ws es ps tk c).1, (af1 k M ws es ps tk c).2⟩ :: goRun k M ws es (af1 k M ws es ps tk c).1 (af1 k M ws es ps tk c).2 hs := by
  conv => lhs; unfold goRun
  rw [h]
theorem Gw.run (a : Gw k M ws es c g n ps tk p1 t1) : ∀ (hs : List Nat), goRun k M ws es ps tk (List.replicate n c ++ hs) = goRun k M ws es ps tk (List.replicate n c) ++ goRun k M ws es p1 t1 hs ∧ (goRun k M ws es ps tk (List.replicate n c)).length = n ∧ endS ps tk (goRun k M ws es ps tk (List.replicate n c)) = (p1, t1) := by
  induction a with
  | nil => exact fun hs => ⟨rfl, rfl, rfl⟩
  | step h1 h2 _ ih =>
    intro hs
    obtain ⟨i1, i2, i3⟩ := ih hs
    rw [List.replicate_succ, List.cons_append, goRun_cons h2, goRun_cons h2]
    refine ⟨?_, ?_, ?_⟩
    · rw [i1]; rfl
    · rw [List.length_cons, i2]
    · exact i3
/-- place and tokens behind some steps -/
def Gp (k : Nat) (M : Nat → Nat → Str) (ws : List (List Int)) (es : List Int) (c : Nat) (g : Str) (ps : Pls) (n : Nat) (p : Str × Nat) (tk : Tks) (p' : Str × Nat) (tk' : Tks) : Prop :=
  Gw k M ws es c g n (ps.set c p) tk (ps.set c p') tk'
theorem Gp.trans {p p' p2 : Str × Nat} (a : Gp k M ws es c g ps n p tk p' t1) (b : Gp k M ws es c g ps m p' t1 p2 t2) : Gp k M ws es c g ps (m + n) p tk p2 t2 := Gw.trans a b
theorem Gp.nil {p : Str × Nat} : Gp k M ws es c g ps 0 p tk p tk := Gw.nil
inductive Wy (k : Nat) (M : Nat → Nat → Str) (ws : List (List Int)) (es : List Int) : Pls → Tks → List (Nat × (Str × Nat)) → List Nat → Pls → Tks → Prop
  | nil {ps : Pls} {tk : Tks} : Wy k M ws es ps tk [] [] ps tk
  | cons {c n : Nat} {p : Str × Nat} {ps : Pls} {tk : Tks} {p1 : Pls} {t1 : Tks} {l : List (Nat × (Str × Nat))} {hs : List Nat} {p2 : Pls} {t2 : Tks} : c < k → n ≤ 60 → Gw k M ws es c p.1 n ps tk p1 t1 → pAt p1 c = p → Wy k M ws es p1 t1 l hs p2 t2 → Wy k M ws es ps tk ((c, p) :: l) (List.replicate n c ++ hs) p2 t2
theorem Wy.len {l : List (Nat × (Str × Nat))} {hs : List Nat} (a : Wy k M ws es ps tk l hs p2 t2) : hs.length ≤ 60 * l.length ∧ ∀ h ∈ hs, h < k := by
  induction a with
  | nil => exact ⟨Nat.zero_le _, fun h hh => by cases hh⟩
  | cons hc hn _ _ _ ih =>
    refine ⟨by rw [List.length_append, List.length_replicate, List.length_cons]; omega, fun h hh => ?_⟩
    rcases List.mem_append.mp hh with z | z
    · rw [List.eq_of_mem_replicate z]; exact hc
    · exact ih.2 h z
theorem Wy.run {l : List (Nat × (Str × Nat))} {hs : List Nat} (a : Wy k M ws es ps tk l hs p2 t2) : (goRun k M ws es ps tk hs).length = hs.length ∧ endS ps tk (goRun k M ws es ps tk hs) = (p2, t2) := by
  induction a with
  | nil => exact ⟨rfl, rfl⟩
  | cons hc hn g e _ ih =>
    obtain ⟨a1, a2, a3⟩ := g.run _
    rw [a1]
    refine ⟨by rw [List.length_append, List.length_append, a2, ih.1, List.length_replicate], ?_⟩
    rw [endS_two, a3]
    exact ih.2
end
end Vw
set_option maxRecDepth 100000
set_option maxHeartbeats 4000000
namespace Vw
open PySem PySem.Spec L2
end Vw
set_option maxRecDepth 100000
set_option maxHeartbeats 4000000
namespace Vw
open PySem PySem.Spec L2
end Vw
set_option maxRecDepth 100000
set_option maxHeartbeats 4000000
namespace Vw
open PySem PySem.Spec L2
/-- hand i has looked past hand h -/
def clr (ws : List (List Int)) (h i : Nat) (P : Str × Nat) : Prop := P.1 = ("in" : Str) ∨ (P.1 = ("look" : Str) ∧ wI ws h i < P.2)
/-- hand i has still to hand to h before he looks -/
def pnd (M : Nat → Nat → Str) (ws : List (List Int)) (h i : Nat) (P : Str × Nat) : Prop := P.1 = ("rest" : Str) ∨ P.1 = ("wish" : Str) ∨ P.1 = ("low" : Str) ∨ (P.1 = ("hand" : Str) ∧ P.2 ≤ qI M ws h i)
def Ap (M : Nat → Nat → Str) (ws : List (List Int)) (ps : Pls) (tk : Tks) (i j : Nat) : Prop :=
  clr ws j i (pAt ps i) → ¬ clr ws i j (pAt ps j) ∧ (M j i = wEven → tokB tk i j = false ∨ pnd M ws i j (pAt ps j))
section
variable {k : Nat} {M : Nat → Nat → Str} {ws : List (List Int)} {es : List Int} {ps : Pls} {tk : Tks} {h a i j : Nat} {x : Str}
theorem pnd_nlook {P : Str × Nat} (p : pnd M ws h i P) (e : P.1 = ("look" : Str)) : False := by
  rcases p with q | q | q | ⟨q, _⟩ <;> · rw [e] at q; exact absurd q (by decide)
theorem look_key (L : Lk k M ws es) (s : SafeP k M es) (st : StP k M ws ps tk) (ha : a < k) (hh : h < k) (hne : h ≠ a) (hn : nx1 k M ws es ps tk a = some x) (e : (pAt ps a).1 = ("look" : Str)) (hx : x ≠ ("yield" : Str)) (q : (pAt ps a).2 = wI ws h a) :
    flagS es (pAt ps h).1 h = ("down" : Str) ∨ (M a h = wEven ∧ flagS es (pAt ps h).1 h = ("up" : Str) ∧ tokB tk h a = true) := by
  obtain ⟨hw, hp, hj⟩ := at1 L st ha
  obtain ⟨nd, hm, hl, hwl⟩ := wAt_facts L ha hh hne
  obtain ⟨hj1, hj2, _⟩ := hj (by rw [e]; decide)
  have hn' : nextW k M es ps tk a (pAt ps a) (jAt ws ps a) (pAt ps (jAt ws ps a)) = some x := hn
  have g : goesS M es ps tk a (jAt ws ps a) (pAt ps (jAt ws ps a)) = true := by
    unfold nextW at hn'
    rw [if_pos e] at hn'
    cases hg : goesS M es ps tk a (jAt ws ps a) (pAt ps (jAt ws ps a)) with
    | true => rfl
    | false =>
      rw [hg, if_neg (by decide)] at hn'
      split at hn'
      · exact absurd (Option.some.inj hn').symm hx
      · cases hn'
  have at_h : jAt ws ps a = h := by
    have gi := List.getElem_idxOf hl
    have : (wAt ws a)[(pAt ps a).2]? = some (h : Int) := by
      rw [q]
      exact (List.getElem?_eq_getElem hl).trans (congrArg some gi)
    rw [hj1] at this
    have := Option.some.inj this
    omega
  by_cases nf : flagS es (pAt ps h).1 h = ("down" : Str)
  · exact .inl nf
  · rw [at_h] at g
    unfold goesS at g
    rw [decide_eq_false (show ¬ M a h = ("pass" : Str) from (s a h ha hh hne).1), decide_eq_false nf, Bool.false_or, Bool.false_or, Bool.and_eq_true, Bool.and_eq_true] at g
    exact .inr ⟨of_decide_eq_true g.1, of_decide_eq_true g.2.1, g.2.2⟩
theorem clr_up {P : Str × Nat} (c : clr ws h i P) : flagS es P.1 i = ("up" : Str) := by
  unfold flagS
  rw [if_pos]
  rcases c with q | ⟨q, _⟩ <;> · rw [q]; decide
/-- how one comes past another -/
theorem clr_new (L : Lk k M ws es) (s : SafeP k M es) (st : StP k M ws ps tk) (na : (pAt ps a).1 ≠ ("anew" : Str)) (ha : a < k) (hh : h < k) (hne : h ≠ a) (hn : nx1 k M ws es ps tk a = some x)
    (c : clr ws h a (placeS k M es ps tk (wAt ws a) a (pAt ps a) (jAt ws ps a) (pAt ps (jAt ws ps a)))) :
    (pAt ps a).1 = ("look" : Str) ∧ x ≠ ("yield" : Str) ∧ (clr ws h a (pAt ps a) ∨ (pAt ps a).2 = wI ws h a) := by
  obtain ⟨hw, hp, hj⟩ := at1 L st ha
  have o := st.at_ a _ _ hw hp
  obtain ⟨nd, hm, hl, hwl⟩ := wAt_facts L ha hh hne
  have hn' : nextW k M es ps tk a (pAt ps a) (jAt ws ps a) (pAt ps (jAt ws ps a)) = some x := hn
  have no : ∀ {w : Str} {n : Nat}, clr ws h a (w, n) → w ≠ ("in" : Str) → (w ≠ ("look" : Str) ∨ n = 0) → False := fun {w n} c h1 h2 => by
    rcases c with q | ⟨q, z⟩
    · exact h1 q
    · rcases h2 with h2 | h2
      · exact h2 q
      · have z' : wI ws h a < n := z
        omega
  rcases step_cases (w := wAt ws a) o.kind hn' with ⟨e, hx, hr⟩ | ⟨e, hx, hr⟩ | ⟨e, hx, hr⟩ | ⟨e, hx, hr⟩ | ⟨e, hx, hr⟩ | ⟨e, hx, hr⟩ | ⟨e, hx, h1, hr⟩ | ⟨e, hx, h1, hr⟩ | ⟨e, hx, h1, hr⟩ | ⟨e, hx, h1, hr⟩ | ⟨e, hx, hr⟩ <;> rw [hr] at c
  · rw [begun_wish L s ha] at c; exact (no c (by decide) (.inl (by decide))).elim
  · unfold raisedP at c
    split at c
    · exact (no c (by decide) (.inl (by decide))).elim
    · exact (no c (by decide) (.inr rfl)).elim
  · exact (no c (by decide) (.inl (by decide))).elim
  · unfold handP at c
    split at c
    · exact (no c (by decide) (.inl (by decide))).elim
    · split at c
      · exact (no c (by decide) (.inl (by decide))).elim
      · exact (no c (by decide) (.inr rfl)).elim
  · exact (no c (by decide) (.inl (by decide))).elim
  · split at c
    · exact (no c (by decide) (.inl (by decide))).elim
    · rw [begun_wish L s ha] at c; exact (no c (by decide) (.inl (by decide))).elim
  · exact absurd e na
  · exact absurd e na
  · refine ⟨e, by rw [hx]; decide, ?_⟩
    by_cases q : (pAt ps a).2 = wI ws h a
    · exact .inr q
    · exact .inl (.inr ⟨e, by omega⟩)
  · refine ⟨e, by rw [hx]; decide, ?_⟩
    rcases c with z | ⟨_, z⟩
    · exact absurd z (by show ¬ ("look" : Str) = "in"; decide)
    · have z' : wI ws h a < (pAt ps a).2 + 1 := z
      by_cases q : (pAt ps a).2 = wI ws h a
      · exact .inr q
      · exact .inl (.inr ⟨e, by omega⟩)
  · exact (no c (by decide) (.inl (by decide))).elim
theorem down_pnd (L : Lk k M ws es) (s : SafeP k M es) (st : StP k M ws ps tk) (na : (pAt ps j).1 ≠ ("anew" : Str)) (hj : j < k) (f : flagS es (pAt ps j).1 j = ("down" : Str)) : pnd M ws i j (pAt ps j) := by
  obtain ⟨hw, hp, _⟩ := at1 L st hj
  have o := st.at_ j _ _ hw hp
  have up : (pAt ps j).1 ∈ upW → False := fun q => by
    unfold flagS at f
    rw [if_pos q] at f
    exact absurd f (by decide)
  rcases kinds_or o.kind with e | e | e | e | e | e | e | e
  · exact .inl e
  · exact .inr (.inl e)
  · exact (up (by rw [e]; decide)).elim
  · have hl := o.hand e
    have nh : ¬ (j : Int) ∈ es := fun z => by rw [early_none L s hj z] at hl; cases hl
    unfold flagS at f
    rw [e, if_neg (by decide), if_pos ⟨rfl, nh⟩] at f
    exact absurd f (by decide)
  · exact (up (by rw [e]; decide)).elim
  · exact (up (by rw [e]; decide)).elim
  · exact .inr (.inr (.inl e))
  · exact absurd e na
theorem tok_one (hne : i ≠ j) (t : tokB tk j i = true) : tokB tk i j = false := by
  unfold tokB at t ⊢
  rw [Nat.min_comm, Nat.max_comm] at t
  cases hh : hold tk (min j i) (max j i) with
  | nil => rfl
  | cons z l =>
    rw [hh] at t
    have t' : z = (i : Int) := of_decide_eq_true t
    show decide (z = (j : Int)) = false
    exact decide_eq_false (by omega)
/-- what hand j does while i is past him -/
theorem pnd_step (L : Lk k M ws es) (s : SafeP k M es) (st : StP k M ws ps tk) (na : (pAt ps j).1 ≠ ("anew" : Str)) (hj : j < k) (hi : i < k) (hne : i ≠ j) (hn : nx1 k M ws es ps tk j = some x) (he : M j i = wEven)
    (q : tokB tk i j = false ∨ pnd M ws i j (pAt ps j)) :
    tokB (tokS M tk (wAt ws j) j (pAt ps j)) i j = false ∨ pnd M ws i j (placeS k M es ps tk (wAt ws j) j (pAt ps j) (jAt ws ps j) (pAt ps (jAt ws ps j))) := by
  obtain ⟨hw, hp, hjj⟩ := at1 L st hj
  have o := st.at_ j _ _ hw hp
  obtain ⟨nd, hm, hl, hwl⟩ := wAt_facts L hj hi hne
  have hmo : (i : Int) ∈ evL M (wAt ws j) j := List.mem_filter.mpr ⟨hm, by rw [Int.toNat_natCast]; exact decide_eq_true he⟩
  have hn' : nextW k M es ps tk j (pAt ps j) (jAt ws ps j) (pAt ps (jAt ws ps j)) = some x := hn
  have ne : ¬ (j : Int) ∈ es := fun q => by rw [early_none L s hj q] at hmo; cases hmo
  have same : (pAt ps j).1 ≠ ("hand" : Str) → tokS M tk (wAt ws j) j (pAt ps j) = tk := fun q => by unfold tokS; rw [if_neg q]
  by_cases eh : (pAt ps j).1 = ("hand" : Str)
  · have hlt := o.hand eh
    have ho := List.idxOf_lt_length_of_mem hmo
    have go := List.getElem_idxOf ho
    have ndo : (evL M (wAt ws j) j).Nodup := nd.filter _
    obtain ⟨j0, hj0⟩ : ∃ j0 : Nat, (evL M (wAt ws j) j)[(pAt ps j).2] = (j0 : Int) := by
      obtain ⟨m, e1, _⟩ := others_mem ((L.ways.2 j _ (ways_get L hj)).mem_iff.mp (List.mem_filter.mp (List.getElem_mem hlt)).1)
      exact ⟨m, e1⟩
    have etk : tokS M tk (wAt ws j) j (pAt ps j) = handT tk j j0 := by
      unfold tokS
      rw [if_pos eh, List.getD_eq_getElem?_getD, List.getElem?_eq_getElem hlt]
      show handT tk j ((evL M (wAt ws j) j)[(pAt ps j).2]).toNat = _
      rw [hj0, Int.toNat_natCast]
    by_cases hq : (pAt ps j).2 = qI M ws i j
    · have hji : j0 = i := by
        have : (evL M (wAt ws j) j)[(pAt ps j).2] = (i : Int) := by
          have hq' : (pAt ps j).2 = (evL M (wAt ws j) j).idxOf (i : Int) := hq
          simp only [hq']
          exact go
        rw [hj0] at this; omega
      left
      unfold tokB
      rw [etk, hold_hand, hji, if_pos ⟨rfl, rfl⟩]
      cases hold tk (min j i) (max j i) with
      | nil => rfl
      | cons t l => show decide ((i : Int) = (j : Int)) = false; exact decide_eq_false (by omega)
    · have hji : j0 ≠ i := fun q => by
        subst q
        have : (pAt ps j).2 = (evL M (wAt ws j) j).idxOf (j0 : Int) := (List.getElem_inj ndo).mp (hj0.trans go.symm)
        exact hq this
      have ht : tokB (tokS M tk (wAt ws j) j (pAt ps j)) i j = tokB tk i j := by
        unfold tokB
        rw [etk, hold_hand, if_neg (by omega)]
      rcases q with q | q
      · exact .inl (ht.trans q)
      · right
        rcases q with q | q | q | ⟨_, q⟩
        · rw [eh] at q; exact absurd q (by decide)
        · rw [eh] at q; exact absurd q (by decide)
        · rw [eh] at q; exact absurd q (by decide)
        have hqo : qI M ws i j < (evL M (wAt ws j) j).length := ho
        rcases step_cases (w := wAt ws j) o.kind hn' with ⟨e, hx, hr⟩ | ⟨e, hx, hr⟩ | ⟨e, hx, hr⟩ | ⟨e, hx, hr⟩ | ⟨e, hx, hr⟩ | ⟨e, hx, hr⟩ | ⟨e, hx, h1, hr⟩ | ⟨e, hx, h1, hr⟩ | ⟨e, hx, h1, hr⟩ | ⟨e, hx, h1, hr⟩ | ⟨e, hx, hr⟩
        all_goals try (exfalso; rw [eh] at e; exact absurd e (by decide))
        rw [hr]
        unfold handP
        rw [if_pos (decide_eq_true (by omega))]
        exact .inr (.inr (.inr ⟨rfl, by show (pAt ps j).2 + 1 ≤ _; omega⟩))
  · rw [same eh]
    rcases q with q | q
    · exact .inl q
    · right
      have hns : ∀ m, m = jAt ws ps j → (pAt ps j).1 ∈ kinds4 → M j m ≠ ("slip" : Str) := fun m em hk => by
        obtain ⟨hj1, hj2, _⟩ := hjj hk
        obtain ⟨m, e1, hm2, hne2⟩ := others_mem ((L.ways.2 j _ (ways_get L hj)).mem_iff.mp (List.mem_of_getElem? hj1))
        have : jAt ws ps j = m := by omega
        rw [em, this]
        exact (s j m hj hm2 hne2).2.1
      rcases step_cases (w := wAt ws j) o.kind hn' with ⟨e, hx, hr⟩ | ⟨e, hx, hr⟩ | ⟨e, hx, hr⟩ | ⟨e, hx, hr⟩ | ⟨e, hx, hr⟩ | ⟨e, hx, hr⟩ | ⟨e, hx, h1, hr⟩ | ⟨e, hx, h1, hr⟩ | ⟨e, hx, h1, hr⟩ | ⟨e, hx, h1, hr⟩ | ⟨e, hx, hr⟩
      · rw [hr, begun_wish L s hj]; exact .inr (.inl rfl)
      · rw [hr]
        unfold raisedP
        rw [if_pos (decide_eq_true ⟨fun z => (by rw [z] at hmo; cases hmo), ne⟩)]
        exact .inr (.inr (.inr ⟨rfl, Nat.zero_le _⟩))
      · exfalso; rcases q with q | q | q | ⟨q, _⟩ <;> · rw [e] at q; exact absurd q (by decide)
      · exact absurd e eh
      · exfalso; rcases q with q | q | q | ⟨q, _⟩ <;> · rw [e] at q; exact absurd q (by decide)
      · rw [hr, if_neg (fun z => hns _ rfl (by rw [e]; decide) (of_decide_eq_true z)), begun_wish L s hj]
        exact .inr (.inl rfl)
      · exact absurd e na
      · exact absurd e na
      · exact (pnd_nlook q e).elim
      · exact (pnd_nlook q e).elim
      · exact (pnd_nlook q e).elim
theorem ap_step (L : Lk k M ws es) (s : SafeP k M es) (st : StP k M ws ps tk) (na : ∀ i, i < k → (pAt ps i).1 ≠ ("anew" : Str)) (ap : ∀ i j, i < k → j < k → i ≠ j → Ap M ws ps tk i j) (ha : a < k) (hn : nx1 k M ws es ps tk a = some x) (hi : i < k) (hj : j < k) (hne : i ≠ j) :
    Ap M ws (ps.set a (placeS k M es ps tk (wAt ws a) a (pAt ps a) (jAt ws ps a) (pAt ps (jAt ws ps a)))) (tokS M tk (wAt ws a) a (pAt ps a)) i j := by
  have hal : a < ps.length := by rw [st.st.len]; exact ha
  unfold Ap
  rw [pAt_set hal (i := i), pAt_set hal (i := j)]
  by_cases hia : i = a
  · subst hia
    rw [if_pos rfl, if_neg (fun q => hne q.symm)]
    intro c
    obtain ⟨e, hx, hq⟩ := clr_new L s st (na i hi) hi hj (fun q => hne q.symm) hn c
    have et : tokS M tk (wAt ws i) i (pAt ps i) = tk := by unfold tokS; rw [if_neg (by rw [e]; decide)]
    rw [et]
    rcases hq with hq | hq
    · exact ap i j hi hj hne hq
    · rcases look_key L s st hi hj (fun q => hne q.symm) hn e hx hq with f | ⟨he, f, ht⟩
      · refine ⟨fun c2 => ?_, fun _ => .inr (down_pnd L s st (na j hj) hj f)⟩
        rw [clr_up (es := es) c2] at f
        exact absurd f (by decide)
      · refine ⟨fun c2 => ?_, fun _ => .inl (tok_one hne ht)⟩
        rcases (ap j i hj hi (fun q => hne q.symm) c2).2 he with z | z
        · rw [ht] at z; cases z
        · exact pnd_nlook z e
  · rw [if_neg hia]
    by_cases hja : j = a
    · subst hja
      rw [if_pos rfl]
      intro c
      obtain ⟨n1, n2⟩ := ap i j hi hj hne c
      refine ⟨fun c2 => ?_, fun he => pnd_step L s st (na j hj) hj hi hne hn he (n2 he)⟩
      obtain ⟨e, hx, hq⟩ := clr_new L s st (na j hj) hj hi hne hn c2
      rcases hq with hq | hq
      · exact n1 hq
      · rcases look_key L s st hj hi hne hn e hx hq with f | ⟨he, _, ht⟩
        · rw [clr_up (es := es) c] at f
          exact absurd f (by decide)
        · rcases n2 he with z | z
          · rw [ht] at z; cases z
          · exact pnd_nlook z e
    · rw [if_neg hja]
      intro c
      obtain ⟨n1, n2⟩ := ap i j hi hj hne c
      refine ⟨n1, fun he => ?_⟩
      rw [tok_other hja hia]
      exact n2 he
/-- a standing that safe hands can come to -/
structure SafeS (k : Nat) (M : Nat → Nat → Str) (ws : List (List Int)) (ps : Pls) (tk : Tks) : Prop where
  st : StP k M ws ps tk
  na : ∀ i, i < k → (pAt ps i).1 ≠ ("anew" : Str)
  ap : ∀ i j, i < k → j < k → i ≠ j → Ap M ws ps tk i j
theorem place_na (L : Lk k M ws es) (s : SafeP k M es) (st : StP k M ws ps tk) (na : (pAt ps a).1 ≠ ("anew" : Str)) (ha : a < k) (hn : nx1 k M ws es ps tk a = some x) : (placeS k M es ps tk (wAt ws a) a (pAt ps a) (jAt ws ps a) (pAt ps (jAt ws ps a))).1 ≠ ("anew" : Str) :=
  (own_ok L s st na ha hn).2.2.2
theorem SafeS.step (L : Lk k M ws es) (s : SafeP k M es) (h2 : 2 ≤ k) (f : SafeS k M ws ps tk) (ha : a < k) (hn : nx1 k M ws es ps tk a = some x) : SafeS k M ws (af1 k M ws es ps tk a).1 (af1 k M ws es ps tk a).2 := by
  obtain ⟨hw, hp, hj⟩ := at1 L f.st ha
  have o := f.st.at_ a _ _ hw hp
  have hn' : nextW k M es ps tk a (pAt ps a) (jAt ws ps a) (pAt ps (jAt ws ps a)) = some x := hn
  have haf : af1 k M ws es ps tk a = (ps.set a (placeS k M es ps tk (wAt ws a) a (pAt ps a) (jAt ws ps a) (pAt ps (jAt ws ps a))), tokS M tk (wAt ws a) a (pAt ps a)) := afterS_eq o.kind hn'
  have hal : a < ps.length := by rw [f.st.st.len]; exact ha
  refine ⟨af_stp L h2 f.st ha, fun i hi => ?_, fun i j hi hj hne => ?_⟩
  · rw [haf, pAt_set hal]
    split
    · exact place_na L s f.st (f.na a ha) ha hn
    · exact f.na i hi
  · rw [haf]
    exact ap_step L s f.st f.na f.ap ha hn hi hj hne
theorem SafeS.run (L : Lk k M ws es) (s : SafeP k M es) (h2 : 2 ≤ k) : ∀ (hs : List Nat) (ps : Pls) (tk : Tks), SafeS k M ws ps tk → (∀ a ∈ hs, a < k) → ∀ e ∈ goRun k M ws es ps tk hs, SafeS k M ws e.ps e.tk
  | [], _, _, _, _, _, h => by cases h
  | a :: hs, ps, tk, f, hh, e, h => by
    unfold goRun at h
    cases hn : nx1 k M ws es ps tk a with
    | none => rw [hn] at h; cases h
    | some x =>
      rw [hn] at h
      have f' := f.step L s h2 (hh a (.head _)) hn
      rcases List.mem_cons.mp h with q | q
      · subst q; exact f'
      · exact SafeS.run L s h2 hs _ _ f' (fun a ha => hh a (.tail _ ha)) e q
/-- no two are in -/
theorem SafeS.one (f : SafeS k M ws ps tk) (hi : i < k) (hj : j < k) (hne : i ≠ j) (h1 : (pAt ps i).1 = ("in" : Str)) (h2 : (pAt ps j).1 = ("in" : Str)) : False :=
  (f.ap i j hi hj hne (.inl h1)).1 (.inl h2)
end
end Vw
set_option maxRecDepth 100000
set_option maxHeartbeats 4000000
namespace Vw
open PySem PySem.Spec L2
end Vw
set_option maxRecDepth 100000
set_option maxHeartbeats 4000000
namespace Vw
open PySem PySem.Spec L2
end Vw
set_option maxRecDepth 100000
set_option maxHeartbeats 4000000
namespace Vw
open PySem PySem.Spec L2
end Vw
set_option maxRecDepth 100000
set_option maxHeartbeats 4000000
namespace Vw
open PySem PySem.Spec L2
end Vw
set_option maxRecDepth 100000
set_option maxHeartbeats 4000000
namespace Vw
open PySem PySem.Spec L2
structure DoneP (ps : List (Str × Str)) (k i j : Nat) (M : Nat → Nat → Str) : Prop where
  dia : ∀ a, a < k → M a a = wDash
  pair : ∀ a b, a < b → b < k → (b < i ∨ (b = i ∧ a < j)) → (M b a, M a b) ∈ ps
theorem DoneP.step {ps : List (Str × Str)} {k i j : Nat} {M : Nat → Nat → Str} {x y : Str} (d : DoneP ps k i j M) (hji : j < i) (hi : i < k) (p : (x, y) ∈ ps) : DoneP ps k i (j + 1) (upd2 (upd2 M i j x) j i y) := by
  have e : ∀ a b, upd2 (upd2 M i j x) j i y a b = if a = j ∧ b = i then y else if a = i ∧ b = j then x else M a b := fun a b => by
    unfold upd2 upd1
    by_cases h1 : a = j
    · subst h1
      by_cases h2 : b = i
      · subst h2; simp
      · have : ¬ a = i := by omega
        simp [h2, this]
    · by_cases h2 : a = i
      · subst h2
        by_cases h3 : b = j <;> simp [h1, h3]
      · simp [h1, h2]
  refine ⟨fun a ha => ?_, fun a b hab hb h => ?_⟩
  · rw [e, if_neg (by omega), if_neg (by omega)]; exact d.dia a ha
  · by_cases h1 : a = j ∧ b = i
    · obtain ⟨rfl, rfl⟩ := h1
      rw [e, e, if_neg (by omega), if_pos ⟨rfl, rfl⟩, if_pos ⟨rfl, rfl⟩]
      exact p
    · rw [e, e, if_neg h1, if_neg (by omega), if_neg (by omega), if_neg (by omega)]
      exact d.pair a b hab hb (by omega)
end Vw
set_option maxRecDepth 100000
set_option maxHeartbeats 4000000
namespace Vw
open PySem PySem.Spec L2
end Vw
set_option maxRecDepth 100000
set_option maxHeartbeats 4000000
namespace Vw
open PySem PySem.Spec L2
end Vw
set_option maxRecDepth 100000
set_option maxHeartbeats 4000000
namespace Vw
open PySem PySem.Spec L2
end Vw
set_option maxRecDepth 100000
set_option maxHeartbeats 4000000
namespace Vw
open PySem PySem.Spec L2
/-- what was there stands there still; more may stand behind it -/
def Pre (S S' : Sto) : Prop := ∃ R, S' = S ++ R
theorem Pre.refl {S : Sto} : Pre S S := ⟨[], (List.append_nil S).symm⟩
theorem Pre.app {S S' R : Sto} (h : Pre S S') : Pre S (S' ++ R) := by
  obtain ⟨Q, rfl⟩ := h
  exact ⟨Q ++ R, List.append_assoc ..⟩
theorem Pre.trans {S S' S'' : Sto} (h : Pre S S') (h' : Pre S' S'') : Pre S S'' := by
  obtain ⟨Q, rfl⟩ := h
  obtain ⟨R, rfl⟩ := h'
  exact ⟨Q ++ R, List.append_assoc ..⟩
theorem Pre.put {S S' : Sto} {n : Nat} {c : Cell} (h : Pre S S') (hn : S.length ≤ n) : Pre S (S'.set n c) := by
  obtain ⟨Q, rfl⟩ := h
  exact ⟨Q.set (n - S.length) c, List.set_append_right _ _ hn⟩
theorem Pre.len {S S' : Sto} (h : Pre S S') : S.length ≤ S'.length := by
  obtain ⟨Q, rfl⟩ := h
  rw [List.length_append]; omega
theorem Pre.at_ {S S' : Sto} {n : Nat} {c : Cell} (h : Pre S S') (e : S[n]? = some c) : S'[n]? = some c := by
  obtain ⟨Q, rfl⟩ := h
  rw [List.getElem?_append_left (List.getElem?_eq_some_iff.mp e).1]
  exact e
end Vw
set_option maxRecDepth 100000
set_option maxHeartbeats 4000000
namespace Vk
open PySem PySem.Spec L2 Vw
noncomputable section
abbrev intN (l : List Nat) : List D := l.map fun h => D.int (h : Nat)
abbrev sg (c : Nat) : Str := ⟨#[c]⟩
def figs : List Str := ["0", "1", "2", "3", "4", "5"]
theorem figs_eq : figs = (List.range 6).map fun i => sg (48 + i) := by decide +kernel
theorem fig_mem {c : Nat} : sg c ∈ figs ↔ 48 ≤ c ∧ c ≤ 53 := by
  rw [figs_eq, List.mem_map]
  constructor
  · rintro ⟨i, hi, h⟩
    have hi := List.mem_range.mp hi
    have : #[48 + i] = #[c] := congrArg Str.cps h
    have : 48 + i = c := by simpa using this
    omega
  · rintro ⟨h1, h2⟩
    exact ⟨c - 48, List.mem_range.mpr (by omega), by show sg (48 + (c - 48)) = sg c; rw [show 48 + (c - 48) = c by omega]⟩
abbrev figD : D := .tup [.str ("0" : Str), .str ("1" : Str), .str ("2" : Str), .str ("3" : Str), .str ("4" : Str), .str ("5" : Str)]
theorem fig_idx : ∀ i, i < 6 → idxF (.str (sg (48 + i))) (figs.map D.str) = some i := by
  intro i hi
  match i, hi with
  | 0, _ => rfl
  | 1, _ => rfl
  | 2, _ => rfl
  | 3, _ => rfl
  | 4, _ => rfl
  | 5, _ => rfl
section
variable {S : Sto} {c n : Nat} {z : Str}
def figO (c : Nat) : D := if 48 ≤ c ∧ c ≤ 53 then .int ((c - 48 : Nat) : Int) else .non
theorem fig_in : opIn false (.str (sg c)) figD S = some (.bl (decide (48 ≤ c ∧ c ≤ 53)), S) := by
  have := in_strs (neg := false) (w := sg c) (l := figs) (S := S)
  rw [if_neg (by decide)] at this
  rw [show figD = .tup (figs.map D.str) from rfl, this, decide_eq_decide.mpr fig_mem]
theorem figure_ok : fn_readfigure [.str (sg c)] S = some (figO c, S) := by
  let G : Gam := [some (.str (sg c))]
  have ct : dCmpT (opIn false) (dVar 0) (dCon figD) G S = some (decide (48 ≤ c ∧ c ≤ 53), S) := dCmpT_of (x := .str (sg c)) (y := figD) (S1 := S) (S2 := S) rfl rfl fig_in
  unfold figO
  by_cases h : 48 ≤ c ∧ c ≤ 53
  · rw [if_pos h]
    rw [decide_eq_true h] at ct
    have hi : dIdx (dCon figD) (dCons (dVar 0) dNil) G S = some (.int ((c - 48 : Nat) : Int), S) := by
      show (idxF (.str (sg c)) (figs.map D.str)).map (fun (j : Nat) => (D.int (j : Nat), S)) = _
      have := fig_idx (c - 48) (by omega)
      rw [show 48 + (c - 48) = c by omega] at this
      rw [this]; rfl
    exact dFn_rt (G' := G) (dSeq_yes ct rfl (dRetS_of hi))
  · rw [if_neg h]
    rw [decide_eq_false h] at ct
    exact dFn_rt (G' := G) ((dSeq_no ct rfl).trans (dRetS_of rfl))
theorem isi_strT {f : DE} {G : Gam} {S1 : Sto} {y : Str} (h : f G S = some (.str y, S1)) : dIsi "str" f G S = some (.bl true, S1) := by
  have k : kitB "str" "str" = some true := by decide +kernel
  unfold dIsi
  rw [h]
  show ((some "str").bind fun t => (kitB t "str").map fun b => (D.bl b, S1)) = _
  rw [Option.bind_some, k]; rfl
abbrev cz (z : Str) : List Nat := z.cps.toList
def itL (z : Str) : List D := (List.range (cz z).length).map fun i => D.tup [.int (i : Nat), .str (sg ((cz z).getD i 0))]
theorem itL_len : (itL z).length = (cz z).length := by unfold itL; rw [List.length_map, List.length_range]
theorem itL_get {i : Nat} (hi : i < (cz z).length) : (itL z)[i]? = some (.tup [.int (i : Nat), .str (sg ((cz z).getD i 0))]) := by
  unfold itL
  rw [List.getElem?_map, List.getElem?_range hi]; rfl
theorem en_src {i : Nat} (hi : i ≤ (cz z).length) : enX z i S = some (itL z)[i]? := by
  unfold enX
  rw [if_pos (show i ≤ z.cps.size from hi)]
  unfold sgD
  by_cases h : i < (cz z).length
  · rw [itL_get h, List.getElem?_map, List.getElem?_eq_getElem h, List.getD_eq_getElem?_getD, List.getElem?_eq_getElem h]; rfl
  · have h' : z.cps.toList.length ≤ i := Nat.le_of_not_lt h
    rw [List.getElem?_eq_none (by rw [List.length_map]; exact h'), List.getElem?_eq_none (by rw [itL_len]; exact h')]; rfl
/-- a sign that may stand at a place -/
def okAt (z : Str) (i : Nat) : Prop := i < 900 ∧ 48 ≤ (cz z).getD i 0 ∧ (cz z).getD i 0 ≤ 53
instance (z : Str) (i : Nat) : Decidable (okAt z i) := inferInstanceAs (Decidable (_ ∧ _))
theorem first_bad {P : Nat → Prop} [DecidablePred P] : ∀ n, (∀ i, i < n → P i) ∨ ∃ i, i < n ∧ ¬P i ∧ ∀ j, j < i → P j
  | 0 => .inl fun i h => absurd h (Nat.not_lt_zero _)
  | n + 1 => by
    rcases first_bad (P := P) n with h | ⟨i, h1, h2, h3⟩
    · by_cases q : P n
      · exact .inl fun i hi => by
          rcases Nat.lt_succ_iff_lt_or_eq.mp hi with h4 | h4
          · exact h i h4
          · subst h4; exact q
      · exact .inr ⟨n, Nat.lt_succ_self _, q, h⟩
    · exact .inr ⟨i, Nat.lt_succ_of_lt h1, h2, h3⟩
def digs (z : Str) : List Nat := (cz z).map fun c => c - 48
abbrev rrB : DS := (dSeq (dAsg (dCallF 1 (dCons (dVar 3) dNil) fn_readfigure) (dgName 4))
    (dSeq (dIte (dOr (dCmpT (opIsN false) (dVar 4) (dCon .non)) (dCmpT (opCmp fun i j => decide (j ≤ i)) (dVar 2) (dCon (.int 900))))
    (dSeq dNever
    dSkip) dSkip)
    (dSeq (dExpr (dMeth "list" opAppend (dVar 1) (dCons (dVar 4) dNil)))
    dSkip)))
abbrev rrX : SXF := (sxSeq (dAsg (dCallF 1 (dCons (dVar 3) dNil) fn_readfigure) (dgName 4)) sxNo
    (sxSeq (dIte (dOr (dCmpT (opIsN false) (dVar 4) (dCon .non)) (dCmpT (opCmp fun i j => decide (j ≤ i)) (dVar 2) (dCon (.int 900))))
    (dSeq dNever
    dSkip) dSkip) (sxIte (dOr (dCmpT (opIsN false) (dVar 4) (dCon .non)) (dCmpT (opCmp fun i j => decide (j ≤ i)) (dVar 2) (dCon (.int 900))))
    (sxSeq dNever (sxRaise1 "BadText" "place" (dVar 2))
    sxNo) sxNo)
    sxNo))
abbrev rrG (z : Str) (A : Option D) (d2 d3 d4 : Option D) : Gam := [some (.str z), A, d2, d3, d4]
abbrev rrI (z : Str) (S : Sto) (m : Nat) : Nat → Gam → Sto → Prop := fun i G' S' => i ≤ m ∧ ∃ d2 d3 d4, G' = rrG z (some (.loc S.length)) d2 d3 d4 ∧ S' = S ++ [Cell.lst (intN ((digs z).take i))]
theorem rr_test {i : Nat} {A d3 : Option D} {x : D} {S' : Sto} (hx : isNon x = true ∨ ∃ y : Int, x = .int y) : dOr (dCmpT (opIsN false) (dVar 4) (dCon .non)) (dCmpT (opCmp fun i j => decide (j ≤ i)) (dVar 2) (dCon (.int 900))) (rrG z A (some (.int (i : Nat))) d3 (some x)) S' = some (isNon x || decide (900 ≤ i), S') := by
  have c1 : dCmpT (opIsN false) (dVar 4) (dCon .non) (rrG z A (some (.int (i : Nat))) d3 (some x)) S' = some (isNon x, S') := dCmpT_of (x := x) (y := .non) (S1 := S') (S2 := S') rfl rfl rfl
  have c2 : dCmpT (opCmp fun i j => decide (j ≤ i)) (dVar 2) (dCon (.int 900)) (rrG z A (some (.int (i : Nat))) d3 (some x)) S' = some (decide (900 ≤ i), S') := by
    rw [← decide_eq_decide.mpr (show (900 : Int) ≤ (i : Int) ↔ 900 ≤ i from ⟨fun h => by omega, fun h => by omega⟩)]
    exact dCmpT_of (x := .int (i : Nat)) (y := .int 900) (S1 := S') (S2 := S') rfl rfl rfl
  exact dOr_of c1 c2
theorem rr_step {i : Nat} {d2 d3 d4 : Option D} (hi : i < (cz z).length) (ok : okAt z i) :
    ∃ G1 e2 e3 e4, dgTup 2 (dgCons (dgName 2) (dgCons (dgName 3) dgNil)) (.tup [.int (i : Nat), .str (sg ((cz z).getD i 0))]) (rrG z (some (.loc S.length)) d2 d3 d4) (S ++ [Cell.lst (intN ((digs z).take i))]) = some (G1, S ++ [Cell.lst (intN ((digs z).take i))]) ∧ rrX G1 (S ++ [Cell.lst (intN ((digs z).take i))]) = none ∧ rrB G1 (S ++ [Cell.lst (intN ((digs z).take i))]) = some (.nx, rrG z (some (.loc S.length)) e2 e3 e4, S ++ [Cell.lst (intN ((digs z).take (i + 1)))]) := by
  let S' : Sto := S ++ [Cell.lst (intN ((digs z).take i))]
  let c := (cz z).getD i 0
  let A : Option D := some (.loc S.length)
  let I2 : Option D := some (.int (i : Nat))
  let C : Option D := some (.str (sg c))
  let V : Option D := some (.int ((c - 48 : Nat) : Int))
  have hv : figO c = .int ((c - 48 : Nat) : Int) := if_pos ok.2
  have f1 : dAsg (dCallF 1 (dCons (dVar 3) dNil) fn_readfigure) (dgName 4) (rrG z A I2 C d4) S' = some (.nx, rrG z A I2 C V, S') := dAsg_of (dCallF_of (ds := [.str (sg c)]) (S1 := S') rfl rfl (by rw [figure_ok, hv]))
  have ct := rr_test (z := z) (i := i) (A := A) (d3 := C) (x := .int ((c - 48 : Nat) : Int)) (S' := S') (.inr ⟨_, rfl⟩)
  rw [show (isNon (D.int ((c - 48 : Nat) : Int)) || decide (900 ≤ i)) = false by rw [decide_eq_false (by have := ok.1; omega)]; rfl] at ct
  have et : (digs z).take (i + 1) = (digs z).take i ++ [c - 48] := by
    have : (digs z)[i]? = some (c - 48) := by
      unfold digs
      rw [List.getElem?_map, List.getElem?_eq_getElem hi]
      show some ((cz z)[i] - 48) = some ((cz z).getD i 0 - 48)
      rw [List.getD_eq_getElem?_getD, List.getElem?_eq_getElem hi]; rfl
    rw [List.take_add_one, this]; rfl
  have f3 : dExpr (dMeth "list" opAppend (dVar 1) (dCons (dVar 4) dNil)) (rrG z A I2 C V) S' = some (.nx, rrG z A I2 C V, S ++ [Cell.lst (intN ((digs z).take (i + 1)))]) := by
    refine dExpr_of (d := .non) (dMeth_of (x := .loc S.length) (S1 := S') rfl (tyD_loc get_last) (dOne_of (d := .int ((c - 48 : Nat) : Int)) (S1 := S') rfl) ?_)
    rw [app_loc get_last (by rw [List.length_map, List.length_take]; have := ok.1; omega), set_last, et]
    show some (D.non, S ++ [Cell.lst (intN ((digs z).take i) ++ [.int ((c - 48 : Nat) : Int)])]) = some (D.non, S ++ [Cell.lst (intN ((digs z).take i ++ [c - 48]))])
    rw [show intN ((digs z).take i ++ [c - 48]) = intN ((digs z).take i) ++ [.int ((c - 48 : Nat) : Int)] from List.map_append]
  exact ⟨rrG z A I2 C d4, I2, C, V, rfl, (sxSeq_n rfl f1).trans ((sxSeq_n (G1 := rrG z A I2 C V) (S1 := S') ((sxIte_f ct).trans rfl) ((dIte_f ct).trans rfl)).trans rfl), (dSeq_nx f1).trans ((dSeq_no ct rfl).trans ((dSeq_nx f3).trans rfl))⟩
theorem run_good (ok : ∀ i, i < (cz z).length → okAt z i) : (∃ S', fn_readrun [.str z] S = some (.tup (intN (digs z)), S') ∧ Pre S S') ∧ xfn_readrun [.str z] S = none := by
  let S0 : Sto := S ++ [Cell.lst []]
  let A : Option D := some (.loc S.length)
  have ci : ∀ A d2 d3 d4 S', dNot (dTst (dIsi "str" (dVar 0))) (rrG z A d2 d3 d4) S' = some (false, S') := fun _ _ _ _ S' => dNot_of (b := true) (dTst_of (isi_strT (S1 := S') rfl))
  have f1 : dAsg (dLst true dNil) (dgName 1) (rrG z none none none none) S = some (.nx, rrG z A none none none, S0) := dAsg_of (d := .loc S.length) (S1 := S0) rfl
  have hw : dEnumX (dVar 0) (rrG z A none none none) S0 = some (enX z, (cz z).length + 1, S0) := rfl
  have hsrc : ∀ i G S', rrI z S (cz z).length i G S' → enX z i S' = some (itL z)[i]? := fun i G S' h => en_src h.1
  have step : ∀ i G' S' d, (itL z)[i]? = some d → rrI z S (cz z).length i G' S' → ∃ G1 S1 G2 S2, dgTup 2 (dgCons (dgName 2) (dgCons (dgName 3) dgNil)) d G' S' = some (G1, S1) ∧ rrX G1 S1 = none ∧ rrB G1 S1 = some (.nx, G2, S2) ∧ rrI z S (cz z).length (i + 1) G2 S2 := fun i G' S' d hd h => by
    obtain ⟨_, d2, d3, d4, rfl, rfl⟩ := h
    have hi : i < (cz z).length := by have := (List.getElem?_eq_some_iff.mp hd).1; rwa [itL_len] at this
    rw [itL_get hi] at hd
    cases hd
    obtain ⟨G1, e2, e3, e4, b1, b2, b3⟩ := rr_step (S := S) (d2 := d2) (d3 := d3) (d4 := d4) hi (ok i hi)
    exact ⟨G1, _, _, _, b1, b2, b3, hi, e2, e3, e4, rfl, rfl⟩
  have i0 : rrI z S (cz z).length 0 (rrG z A none none none) S0 := ⟨Nat.zero_le _, none, none, none, rfl, rfl⟩
  obtain ⟨G3, S3, e3, _, d2, d3, d4, rfl, rfl⟩ := for_inv (rrI z S (cz z).length) hsrc (fun i G' S' d hd h => by
    obtain ⟨G1, S1, G2, S2, b1, _, b3, b4⟩ := step i G' S' d hd h
    exact ⟨G1, S1, G2, S2, b1, b3, b4⟩) (cz z).length 0 (rrG z A none none none) S0 (by rw [itL_len]; omega) i0
  have x3 := sx_none (rrI z S (cz z).length) hsrc step (cz z).length 0 (rrG z A none none none) S0 (by rw [itL_len]; omega) i0
  have dl : (digs z).length = (cz z).length := List.length_map _
  rw [itL_len, List.take_of_length_le (by omega)] at e3
  have lp : dFor (dEnumX (dVar 0)) (dgTup 2 (dgCons (dgName 2) (dgCons (dgName 3) dgNil))) rrB (rrG z A none none none) S0 = some (.nx, _, _) := (dFor_of hw).trans e3
  have xlp : sxFor (dEnumX (dVar 0)) (dgTup 2 (dgCons (dgName 2) (dgCons (dgName 3) dgNil))) rrB rrX (rrG z A none none none) S0 = none := by
    unfold sxFor
    rw [hw]
    exact x3
  have l9 : (cz z).length ≤ 900 := by
    rcases Nat.lt_or_ge 900 (cz z).length with h | h
    · have := (ok 900 h).1; omega
    · exact h
  refine ⟨⟨S ++ [Cell.lst (intN (digs z))], dFn_rt (G' := rrG z A d2 d3 d4) ((dSeq_no (ci _ _ _ _ _) rfl).trans ((dSeq_nx f1).trans ((dSeq_nx lp).trans (dRetS_of (dCall_of (dOne_of (d := .loc S.length) (S1 := S ++ [Cell.lst (intN (digs z))]) rfl) (tuple_of (seqD_loc get_last) (by rw [List.length_map]; omega))))))), Pre.refl.app⟩, dxFn_no ?_⟩
  exact (sxSeq_n (G1 := rrG z none none none none) (S1 := S) ((sxIte_f (ci _ _ _ _ _)).trans rfl) ((dIte_f (ci _ _ _ _ _)).trans rfl)).trans ((sxSeq_n rfl f1).trans ((sxSeq_n xlp lp).trans rfl))
theorem run_bad {n : Nat} (hn : n < (cz z).length) (bad : ¬okAt z n) (ok : ∀ i, i < n → okAt z i) : ∃ S', xfn_readrun [.str z] S = some (⟨"BadText", [("place", .int (n : Nat))]⟩, S') ∧ Pre S S' := by
  let S0 : Sto := S ++ [Cell.lst []]
  let A : Option D := some (.loc S.length)
  have n9 : n ≤ 900 := by
    rcases Nat.lt_or_ge 900 n with h | h
    · have := (ok 900 h).1; omega
    · exact h
  have ci : ∀ A d2 d3 d4 S', dNot (dTst (dIsi "str" (dVar 0))) (rrG z A d2 d3 d4) S' = some (false, S') := fun _ _ _ _ S' => dNot_of (b := true) (dTst_of (isi_strT (S1 := S') rfl))
  have f1 : dAsg (dLst true dNil) (dgName 1) (rrG z none none none none) S = some (.nx, rrG z A none none none, S0) := dAsg_of (d := .loc S.length) (S1 := S0) rfl
  have hw : dEnumX (dVar 0) (rrG z A none none none) S0 = some (enX z, (cz z).length + 1, S0) := rfl
  obtain ⟨r, e3, S', q1, q2⟩ := sx_inv (src := enX z) (g := dgTup 2 (dgCons (dgName 2) (dgCons (dgName 3) dgNil))) (b := rrB) (xb := rrX) (ds := itL z) (Q := fun r => ∃ S', r.1 = ⟨"BadText", [("place", .int (n : Nat))]⟩ ∧ r.2.2 = S ++ S') (rrI z S n) n
    (fun i G' S' h => en_src (Nat.le_trans h.1 (Nat.le_of_lt hn)))
    (fun i G' S' d hi hd h => by
      obtain ⟨_, d2, d3, d4, rfl, rfl⟩ := h
      have hil : i < (cz z).length := by omega
      rw [itL_get hil] at hd
      cases hd
      obtain ⟨G1, e2, e3, e4, b1, b2, b3⟩ := rr_step (S := S) (d2 := d2) (d3 := d3) (d4 := d4) hil (ok i hi)
      exact ⟨G1, _, _, _, b1, b2, b3, hi, e2, e3, e4, rfl, rfl⟩)
    (fun G' S' d hd h => by
      obtain ⟨_, d2, d3, d4, rfl, rfl⟩ := h
      rw [itL_get hn] at hd
      cases hd
      let S1 : Sto := S ++ [Cell.lst (intN ((digs z).take n))]
      let c := (cz z).getD n 0
      let I2 : Option D := some (.int (n : Nat))
      let C : Option D := some (.str (sg c))
      let V : Option D := some (figO c)
      have f1 : dAsg (dCallF 1 (dCons (dVar 3) dNil) fn_readfigure) (dgName 4) (rrG z A I2 C d4) S1 = some (.nx, rrG z A I2 C V, S1) := dAsg_of (dCallF_of (ds := [.str (sg c)]) (S1 := S1) rfl rfl figure_ok)
      have hx : isNon (figO c) = true ∨ ∃ y : Int, figO c = .int y := by
        unfold figO
        split
        · exact .inr ⟨_, rfl⟩
        · exact .inl rfl
      have ct := rr_test (z := z) (i := n) (A := A) (d3 := C) (x := figO c) (S' := S1) hx
      have hb : (isNon (figO c) || decide (900 ≤ n)) = true := by
        by_cases h9 : 900 ≤ n
        · rw [decide_eq_true h9, Bool.or_true]
        · have : ¬(48 ≤ c ∧ c ≤ 53) := fun h => bad ⟨by omega, h⟩
          unfold figO
          rw [if_neg this]; rfl
      rw [hb] at ct
      have ht : txtD (.int (n : Nat)) = true := log2_small (by omega)
      have rz : sxRaise1 "BadText" "place" (dVar 2) (rrG z A I2 C V) S1 = some (⟨"BadText", [("place", .int (n : Nat))]⟩, rrG z A I2 C V, S1) := by
        show (if txtD (.int (n : Nat)) = true then _ else _) = _
        rw [if_pos ht]
      exact ⟨rrG z A I2 C d4, S1, _, rfl, (sxSeq_n rfl f1).trans (sxSeq_x ((sxIte_t ct).trans (sxSeq_x rz))), [Cell.lst (intN ((digs z).take n))], rfl, rfl⟩)
    (by rw [itL_len]; exact hn) n 0 (rrG z A none none none) S0 (by omega) ⟨Nat.zero_le _, none, none, none, rfl, rfl⟩
  rw [itL_len, show n + 1 + ((cz z).length - n) = (cz z).length + 1 by omega] at e3
  obtain ⟨r1, r2, r3⟩ := r
  obtain rfl : r1 = _ := q1
  obtain rfl : r3 = _ := q2
  refine ⟨S ++ S', dxFn_of (G' := r2) ?_, ⟨S', rfl⟩⟩
  refine (sxSeq_n (G1 := rrG z none none none none) (S1 := S) ((sxIte_f (ci _ _ _ _ _)).trans rfl) ((dIte_f (ci _ _ _ _ _)).trans rfl)).trans ((sxSeq_n rfl f1).trans (sxSeq_x ?_))
  unfold sxFor
  rw [hw]
  exact e3
theorem sign_int : ∀ c : Nat, (48 ≤ c ∧ c ≤ 53) → ∀ S : Sto, opIntT [.str (sg c)] S = some (.int ((c - 48 : Nat) : Int), S) := by
  have h : ∀ i, i < 6 → PySem.intText? (sg (48 + i)) = some ((i : Nat) : Int) := by
    intro i hi
    match i, hi with
    | 0, _ => decide +kernel
    | 1, _ => decide +kernel
    | 2, _ => decide +kernel
    | 3, _ => decide +kernel
    | 4, _ => decide +kernel
    | 5, _ => decide +kernel
  intro c hc S
  have := h (c - 48) (by omega)
  rw [show 48 + (c - 48) = c by omega] at this
  show (if (1 : Nat) ≤ 640 then (PySem.intText? (sg c)).map fun n => (D.int n, S) else none) = _
  rw [if_pos (by decide), this]; rfl
def nokB (z : Str) (i : Nat) : Bool := decide (¬okAt z i)
theorem int_mapN (l : List Nat) : intN l = intL (natL l) := by
  show _ = (l.map fun j : Nat => (j : Int)).map D.int
  rw [List.map_map]; rfl
def badL (z : Str) : List Nat := (List.range (cz z).length).filter (nokB z)
theorem bad_none (ok : ∀ i, i < (cz z).length → okAt z i) : badL z = [] := by
  unfold badL
  rw [List.filter_eq_nil_iff]
  intro i hi q
  exact of_decide_eq_true (show decide (¬okAt z i) = true from q) (ok i (List.mem_range.mp hi))
theorem bad_first (hn : n < (cz z).length) (bad : ¬okAt z n) (ok : ∀ i, i < n → okAt z i) : (badL z)[0]? = some n := by
  unfold badL
  obtain ⟨m, hm⟩ : ∃ m, (cz z).length = n + (m + 1) := ⟨(cz z).length - n - 1, by omega⟩
  rw [hm, List.range_add, List.filter_append]
  have e1 : (List.range n).filter (nokB z) = [] := by
    rw [List.filter_eq_nil_iff]
    intro i hi q
    exact of_decide_eq_true (show decide (¬okAt z i) = true from q) (ok i (List.mem_range.mp hi))
  rw [e1, List.nil_append, List.range_succ_eq_map, List.map_cons, List.filter_cons_of_pos (show nokB z (n + 0) = true from decide_eq_true bad)]
  rfl
abbrev wrE : DE := (dLc false [2, 3] (dEnumX (dVar 0)) (dgTup 2 (dgCons (dgName 2) (dgCons (dgName 3) dgNil))) (dOr (dCmpT (opCmp fun i j => decide (j ≤ i)) (dVar 2) (dCon (.int 900))) (dCmpT (opIn true) (dVar 3) (dTup (dCons (dCon (.str ("0" : Str))) (dCons (dCon (.str ("1" : Str))) (dCons (dCon (.str ("2" : Str))) (dCons (dCon (.str ("3" : Str))) (dCons (dCon (.str ("4" : Str))) (dCons (dCon (.str ("5" : Str))) dNil))))))))) (dVar 2))
theorem wrong_ok (hl : (cz z).length ≤ 100000) : wrE [some (.str z), none, none, none] S = some (.lst (intN (badL z)), S) := by
  let G (d2 d3 : Option D) : Gam := [some (.str z), none, d2, d3]
  have hw : dEnumX (dVar 0) (G none none) S = some (enX z, (cz z).length + 1, S) := rfl
  obtain ⟨out, S1, e1, _, rfl, rfl⟩ := lc_inv (src := enX z) (g := dgTup 2 (dgCons (dgName 2) (dgCons (dgName 3) dgNil))) (t := dOr (dCmpT (opCmp fun i j => decide (j ≤ i)) (dVar 2) (dCon (.int 900))) (dCmpT (opIn true) (dVar 3) (dTup (dCons (dCon (.str ("0" : Str))) (dCons (dCon (.str ("1" : Str))) (dCons (dCon (.str ("2" : Str))) (dCons (dCon (.str ("3" : Str))) (dCons (dCon (.str ("4" : Str))) (dCons (dCon (.str ("5" : Str))) dNil))))))))) (f := dVar 2) (G := G none none) (ds := itL z)
    (fun i S' acc => i ≤ (cz z).length ∧ S' = S ∧ acc = intN ((List.range i).filter (nokB z))) (fun j S' acc h => en_src h.1)
    (fun i S' acc d hd h => by
      obtain ⟨_, rfl, rfl⟩ := h
      have hi : i < (cz z).length := by have := (List.getElem?_eq_some_iff.mp hd).1; rwa [itL_len] at this
      rw [itL_get hi] at hd
      cases hd
      let c := (cz z).getD i 0
      let G1 : Gam := G (some (.int (i : Nat))) (some (.str (sg c)))
      have c1 : dCmpT (opCmp fun i j => decide (j ≤ i)) (dVar 2) (dCon (.int 900)) G1 S' = some (decide (900 ≤ i), S') := by
        rw [← decide_eq_decide.mpr (show (900 : Int) ≤ (i : Int) ↔ 900 ≤ i from ⟨fun h => by omega, fun h => by omega⟩)]
        exact dCmpT_of (x := .int (i : Nat)) (y := .int 900) (S1 := S') (S2 := S') rfl rfl rfl
      have c2 : dCmpT (opIn true) (dVar 3) (dTup (dCons (dCon (.str ("0" : Str))) (dCons (dCon (.str ("1" : Str))) (dCons (dCon (.str ("2" : Str))) (dCons (dCon (.str ("3" : Str))) (dCons (dCon (.str ("4" : Str))) (dCons (dCon (.str ("5" : Str))) dNil))))))) G1 S' = some (!decide (48 ≤ c ∧ c ≤ 53), S') := by
        have := in_strs (neg := true) (w := sg c) (l := figs) (S := S')
        rw [if_pos rfl, decide_eq_decide.mpr fig_mem] at this
        exact dCmpT_of (x := .str (sg c)) (y := .tup (figs.map D.str)) (S1 := S') (S2 := S') rfl (dTup_of (ds := figs.map D.str) rfl (by show 6 ≤ 1000000; decide)) this
      have ct := dOr_of c1 c2
      have eb : (decide (900 ≤ i) || !decide (48 ≤ c ∧ c ≤ 53)) = nokB z i := by
        show _ = decide (¬okAt z i)
        by_cases h1 : 900 ≤ i
        · rw [decide_eq_true h1, decide_eq_true (show ¬okAt z i from fun q => by have := q.1; omega)]; rfl
        · by_cases h2 : 48 ≤ c ∧ c ≤ 53
          · rw [decide_eq_false h1, decide_eq_true h2, decide_eq_false (fun q : ¬okAt z i => q ⟨by omega, h2⟩)]; rfl
          · rw [decide_eq_false h1, decide_eq_false h2, decide_eq_true (show ¬okAt z i from fun q => h2 q.2)]; rfl
      rw [eb] at ct
      refine ⟨G1, S', _, S', rfl, ct, fun hb => ⟨.int (i : Nat), S', rfl, hi, rfl, ?_⟩, fun hb => ⟨hi, rfl, ?_⟩⟩
      · rw [List.range_succ, List.filter_append, List.filter_cons_of_pos hb]
        show _ = List.map _ _
        rw [List.map_append]; rfl
      · rw [List.range_succ, List.filter_append, List.filter_cons_of_neg (by rw [hb]; decide), List.filter_nil, List.append_nil]) (cz z).length 0 S [] (by rw [itL_len]; omega) ⟨Nat.zero_le _, rfl, rfl⟩
  rw [itL_len] at e1
  refine (dLc_of (c := false) (own := [2, 3]) (G := G none none) hw e1).trans (okv ?_)
  rw [List.length_map]
  have := List.length_filter_le (nokB z) (List.range (cz z).length)
  rw [List.length_range] at this
  omega
def txD (n : Nat) : D := .lst [.str ("text" : Str), .int (n : Nat), .bl true]
theorem read_good (hl : (cz z).length ≤ 100000) (ok : ∀ i, i < (cz z).length → okAt z i) : fn_lawread [.str z] S = some (.lst [.tup (intN (digs z))], S) := by
  let G (d1 : Option D) : Gam := [some (.str z), d1, none, none]
  have ci : dNot (dTst (dIsi "str" (dVar 0))) (G none) S = some (false, S) := dNot_of (b := true) (dTst_of (isi_strT (S1 := S) rfl))
  have f1 : dAsg wrE (dgName 1) (G none) S = some (.nx, G (some (.lst [])), S) := by
    have := wrong_ok (S := S) hl
    rw [bad_none ok] at this
    exact dAsg_of this
  have c2 : dCmpT (opEq true) (dVar 1) (dLst false dNil) (G (some (.lst []))) S = some (false, S) := dCmpT_of (x := .lst []) (y := .lst []) (S1 := S) (S2 := S) rfl rfl rfl
  have hx : dTxtI (dVar 0) (G (some (.lst []))) S = some (fixS ((cz z).map fun c => D.str (sg c)), (cz z).length + 1, S) := rfl
  have ex := lc_pureY (c := false) (own := [3]) (g := dgName 3) (f := dCall opIntT (dCons (dVar 3) dNil)) (G := G (some (.lst []))) (l := cz z) (e := fun c => D.str (sg c)) hx rfl fix_src (fun c => D.int ((c - 48 : Nat) : Int)) fun c hc => by
    obtain ⟨i, hi, rfl⟩ := List.getElem_of_mem hc
    have o := (ok i hi).2
    rw [List.getD_eq_getElem?_getD, List.getElem?_eq_getElem hi] at o
    exact ⟨[some (.str z), some (.lst []), none, some (.str (sg (cz z)[i]))], rfl, dCall_of (dOne_of (d := .str (sg (cz z)[i])) (S1 := S) rfl) (sign_int _ o S)⟩
  rw [show (cz z).map (fun c => D.int ((c - 48 : Nat) : Int)) = intN (digs z) from by unfold digs intN; rw [List.map_map]; rfl, okv (by rw [List.length_map]; unfold digs; rw [List.length_map]; omega)] at ex
  exact dFn_rt (G' := G (some (.lst []))) ((dSeq_no ci rfl).trans ((dSeq_nx f1).trans ((dSeq_no c2 rfl).trans (dRetS_of (dLst_of (dOne_of (dCall_of (dOne_of ex) (tuple_of rfl (by rw [List.length_map]; unfold digs; rw [List.length_map]; omega)))) (by show 1 ≤ 1000000; decide))))))
theorem read_bad (hl : (cz z).length ≤ 100000) (hn : n < (cz z).length) (bad : ¬okAt z n) (ok : ∀ i, i < n → okAt z i) : fn_lawread [.str z] S = some (txD n, S) := by
  let G (d1 : Option D) : Gam := [some (.str z), d1, none, none]
  have b0 := bad_first hn bad ok
  let W : Option D := some (.lst (intN (badL z)))
  have ci : dNot (dTst (dIsi "str" (dVar 0))) (G none) S = some (false, S) := dNot_of (b := true) (dTst_of (isi_strT (S1 := S) rfl))
  have f1 : dAsg wrE (dgName 1) (G none) S = some (.nx, G W, S) := dAsg_of (wrong_ok (S := S) hl)
  have c2 : dCmpT (opEq true) (dVar 1) (dLst false dNil) (G W) S = some (true, S) := by
    refine dCmpT_of (x := .lst (intN (badL z))) (y := .lst []) (S1 := S) (S2 := S) rfl rfl ?_
    rw [int_mapN, ne_own]
    have : natL (badL z) ≠ [] := fun q => by
      have := congrArg List.length q
      rw [natL_len] at this
      rw [List.length_eq_zero_iff.mp this] at b0
      cases b0
    cases h : natL (badL z) with
    | nil => exact absurd h this
    | cons a r => rfl
  exact dFn_rt (G' := G W) ((dSeq_no ci rfl).trans ((dSeq_nx f1).trans (dSeq_yes c2 rfl (dRetS_of (dLst_of (ds := [.str ("text" : Str), .int (n : Nat), .bl true]) (dCons_of rfl (dCons_of (dBin_of (x := .lst (intN (badL z))) (y := .int 0) (S1 := S) (S2 := S) rfl rfl (ix_seq' (r := 0) (ds := intN (badL z)) rfl (by rw [List.getElem?_map, b0]; rfl))) (dOne_of rfl))) (by show 3 ≤ 1000000; decide))))))
structure DueP (x due : D) : Prop where
  read : ∀ S, fn_lawread [x] S = some (due, S)
  heard : ∀ S b, ∃ S', fn_lawheard [x, .bl b] S = some (due, S') ∧ Pre S S'
  py : ∃ p, (∀ fl, Vw.toP fl due = some p) ∧ Sm 40000 p ∧ p.depth ≤ 8
theorem heard_n {x v : D} {b : Bool} {S' : Sto} (h1 : fn_readrun [x] S = some (v, S')) (h2 : xfn_readrun [x] S = none) : fn_lawheard [x, .bl b] S = some (.lst [v], S') := by
  let G : Gam := [some x, some (.bl b), none]
  have c3 : dTst (dVar 1) G S = some (b, S) := dTst_of rfl
  let X : DE := dIf (dTst (dVar 1)) (dCallW 1 0 1 [0] dNone (dkCons (dVar 0) dNone) fn_readrun) (dCallF 1 (dCons (dVar 0) dNil) fn_readrun)
  let Y : DX := dxIf (dTst (dVar 1)) (dxCallW 1 0 1 [0] dNone (dkCons (dVar 0) dNone) xfn_readrun) (dxCall 1 (dCons (dVar 0) dNil) xfn_readrun)
  have xe : X G S = fn_readrun [x] S := by
    cases b with
    | true => exact (dIf_t c3).trans rfl
    | false => exact (dIf_f c3).trans rfl
  have ye : Y G S = xfn_readrun [x] S := by
    cases b <;> rfl
  have v1 : dLst false (dCons X dNil) G S = some (.lst [v], S') := dLst_of (dOne_of (xe.trans h1)) (by show 1 ≤ 1000000; decide)
  exact dFn_rt (G' := G) (dSeq_rt ((dTry_n (sxSeq_z (sxE_no (ye.trans h2)) (dRet_of v1))).trans (dRetS_of v1)))
theorem heard_x {x : D} {b : Bool} {S' : Sto} (h : xfn_readrun [x] S = some (⟨"BadText", [("place", .int (n : Nat))]⟩, S')) : fn_lawheard [x, .bl b] S = some (txD n, S') := by
  let G : Gam := [some x, some (.bl b), none]
  have c3 : dTst (dVar 1) G S = some (b, S) := dTst_of rfl
  let Y : DX := dxIf (dTst (dVar 1)) (dxCallW 1 0 1 [0] dNone (dkCons (dVar 0) dNone) xfn_readrun) (dxCall 1 (dCons (dVar 0) dNil) xfn_readrun)
  have ye : Y G S = xfn_readrun [x] S := by
    cases b <;> rfl
  exact dFn_rt (G' := G) (dSeq_rt ((dTry_a (G1 := G) (S1 := S') (sxSeq_x (sxE_of (ye.trans h))) rfl (by show 2 < 3; decide)).trans rfl))
theorem tx_py (h : n ≤ 1000) : ∃ p, (∀ fl, Vw.toP fl (txD n) = some p) ∧ Sm 40000 p ∧ p.depth ≤ 8 := by
  obtain ⟨e, sm, d⟩ := (Shows.cons (B := 10) (d := 0) (x := .str ("text" : Str)) (fun _ => rfl) (lit_sm (w := ("text" : Str)) (by decide +kernel)) (Nat.zero_le _) (.cons (x := .int (n : Nat)) (fun _ => rfl) ((num_sm h).mono (by decide)) (Nat.zero_le _) (.cons (x := .bl true) (fun _ => rfl) ⟨rfl, rfl, Nat.zero_le _, by decide +kernel⟩ (Nat.zero_le _) .nil))).lst (n := 3) (C := 40000) (Nat.le_refl 3) (by decide) (by decide)
  exact ⟨_, e, sm, by omega⟩
theorem ints_py {l : List Nat} (hl : l.length ≤ 900) (hz : ∀ x ∈ l, x ≤ 1000) : ∃ p, (∀ fl, Vw.toP fl (.tup (intN l)) = some p) ∧ Sm 6000 p ∧ p.depth ≤ 1 := by
  have t := Shows.of (B := 4) (d := 0) (f := fun z : Nat => D.int (z : Nat)) (g := fun z : Nat => PyData.int (z : Nat)) (l := l) fun z h => ⟨fun _ => rfl, num_sm (hz z h), Nat.le_refl 0⟩
  obtain ⟨e, sm, d⟩ := t.tup (n := 900) (C := 6000) (by rw [List.length_map]; exact hl) (by decide) (by decide)
  exact ⟨_, e, sm, d⟩
theorem due_txt (hl : (cz z).length ≤ 100000) : ∃ due, DueP (.str z) due := by
  rcases first_bad (P := okAt z) (cz z).length with ok | ⟨i, hi, bad, ok⟩
  · refine ⟨.lst [.tup (intN (digs z))], fun S => read_good hl ok, fun S b => ?_, ?_⟩
    · obtain ⟨⟨S', e1, p1⟩, e2⟩ := run_good (S := S) ok
      exact ⟨S', heard_n e1 e2, p1⟩
    · have l9 : (digs z).length ≤ 900 := by
        unfold digs
        rw [List.length_map]
        rcases Nat.lt_or_ge 900 (cz z).length with h | h
        · have := (ok 900 h).1; omega
        · exact h
      obtain ⟨p, e, sm, d⟩ := ints_py l9 fun x hx => by
        obtain ⟨c, hc, rfl⟩ := List.mem_map.mp hx
        obtain ⟨i, hi, rfl⟩ := List.getElem_of_mem hc
        have o := (ok i hi).2
        rw [List.getD_eq_getElem?_getD, List.getElem?_eq_getElem hi] at o
        have : (cz z)[i] ≤ 53 := o.2
        omega
      obtain ⟨e2, sm2, d2⟩ := (Shows.cons (B := 6000) (d := 1) e sm d .nil).lst (n := 1) (C := 40000) (Nat.le_refl 1) (by decide) (by decide)
      exact ⟨_, e2, sm2, by omega⟩
  · have n9 : i ≤ 900 := by
      rcases Nat.lt_or_ge 900 i with h | h
      · have := (ok 900 h).1; omega
      · exact h
    refine ⟨txD i, fun S => read_bad hl hi bad ok, fun S b => ?_, tx_py (by omega)⟩
    obtain ⟨S', e1, p1⟩ := run_bad (S := S) hi bad ok
    exact ⟨S', heard_x e1, p1⟩
/-- what is no text -/
theorem due_odd {x : D} (hx : ∀ (f : DE) (G : Gam) (S : Sto), f G S = some (x, S) → dIsi "str" f G S = some (.bl false, S)) : DueP x (txD 0) := by
  refine ⟨fun S => ?_, fun S b => ⟨S, heard_x ?_, .refl⟩, tx_py (by decide)⟩
  · have ci : dNot (dTst (dIsi "str" (dVar 0))) [some x, none, none, none] S = some (true, S) := dNot_of (b := false) (dTst_of (hx _ _ _ rfl))
    exact dFn_rt (G' := [some x, none, none, none]) (dSeq_yes ci rfl (dRetS_of rfl))
  · have ci : dNot (dTst (dIsi "str" (dVar 0))) [some x, none, none, none, none] S = some (true, S) := dNot_of (b := false) (dTst_of (hx _ _ _ rfl))
    exact dxFn_of (G' := [some x, none, none, none, none]) (sxSeq_x ((sxIte_t ci).trans (sxSeq_x rfl)))
theorem right_ok {x due : D} {b : Bool} (d : DueP x due) : ∃ S', fn_lawisright [x, .bl b] S = some (.bl true, S') ∧ Pre S S' := by
  obtain ⟨S1, e1, p1⟩ := d.heard S b
  obtain ⟨S2, e2, p2⟩ := d.heard S1 false
  obtain ⟨p, ep, sm, dp⟩ := d.py
  let G : Gam := [some x, some (.bl b), some due]
  have f1 : dAsg (dCallF 1 (dCons (dVar 0) dNil) fn_lawread) (dgName 2) [some x, some (.bl b), none] S = some (.nx, G, S) := dAsg_of (dCallF_of (ds := [x]) (S1 := S) rfl rfl (d.read S))
  have v1 : dLst false (dCons (dCallF 2 (dCons (dVar 0) (dCons (dVar 1) dNil)) fn_lawheard) (dCons (dCallF 2 (dCons (dVar 0) (dCons (dCon (.bl false)) dNil)) fn_lawheard) dNil)) G S = some (.lst [due, due], S2) :=
    dLst_of (dCons_of (dCallF_of (ds := [x, .bl b]) (S1 := S) rfl rfl e1) (dOne_of (dCallF_of (ds := [x, .bl false]) (S1 := S1) rfl rfl e2))) (by show 2 ≤ 1000000; decide)
  have v2 : dLst false (dCons (dVar 2) (dCons (dVar 2) dNil)) G S2 = some (.lst [due, due], S2) := dLst_of (ds := [due, due]) (S1 := S2) rfl (by show 2 ≤ 1000000; decide)
  have rp := fun S => repr2 (S := S) ep sm dp
  refine ⟨S2, dFn_rt (G' := G) ((dSeq_nx f1).trans (dRetS_of (dBin_of (dCall_of (dOne_of v1) (rp S2)) (dCall_of (dOne_of v2) (rp S2)) ?_))), p1.trans p2⟩
  rw [eq_str, decide_eq_true rfl]
end
section
variable {S : Sto} {n : Nat} {z : Str} {l l2 : List Nat}
def txt (l : List Nat) : Str := ⟨(l.map fun d => 48 + d).toArray⟩
theorem cz_txt : cz (txt l) = l.map fun d => 48 + d := rfl
theorem txt_inj (h : txt l = txt l2) : l = l2 := by
  have : (l.map fun d => 48 + d) = l2.map fun d => 48 + d := congrArg (fun z : Str => z.cps.toList) h
  have e : ∀ l : List Nat, (l.map fun d => 48 + d).map (fun c => c - 48) = l := fun l => by
    rw [List.map_map]
    refine (List.map_congr_left fun d _ => ?_).trans (List.map_id l)
    show 48 + d - 48 = d
    omega
  rw [← e l, this, e l2]
theorem digs_txt : digs (txt l) = l := by
  unfold digs
  rw [cz_txt, List.map_map]
  refine (List.map_congr_left fun d _ => ?_).trans (List.map_id l)
  show 48 + d - 48 = d
  omega
theorem ok_txt (h6 : ∀ d ∈ l, d < 6) (hl : l.length ≤ 900) : ∀ i, i < (cz (txt l)).length → okAt (txt l) i := fun i hi => by
  rw [cz_txt, List.length_map] at hi
  unfold okAt
  rw [cz_txt, List.getD_eq_getElem?_getD, List.getElem?_map, List.getElem?_eq_getElem hi]
  have := h6 _ (List.getElem_mem hi)
  show i < 900 ∧ 48 ≤ 48 + l[i] ∧ 48 + l[i] ≤ 53
  omega
theorem str_dig : ∀ d, d < 6 → ∀ S : Sto, opStrI [.int (d : Nat)] S = some (.str (sg (48 + d)), S) := by
  have h : ∀ i, i < 6 → Str.ofString (toString ((i : Nat) : Int)) = sg (48 + i) := by decide +kernel
  intro d hd S
  show (if ((d : Nat) : Int).natAbs.log2 < 1920 then some (D.str (Str.ofString (toString ((d : Nat) : Int))), S) else none) = _
  rw [if_pos (by rw [Int.natAbs_natCast]; have := Nat.log2_le_self d; omega), h d hd]
theorem joinL_nil : ∀ ps : List (List Nat), TL.joinL [] ps = ps.flatten
  | [] => rfl
  | [p] => (List.append_nil p).symm
  | p :: q :: r => by
    show p ++ ([] ++ TL.joinL [] (q :: r)) = _
    rw [joinL_nil (q :: r)]; rfl
theorem join_txt : Txt.join ("" : Str) (l.map fun d => sg (48 + d)) = txt l := by
  rw [TL.join_eq]
  refine TL.ext_tl ?_
  rw [TL.tl_join, show TL.tl ("" : Str) = [] from rfl, joinL_nil, List.map_map]
  show (l.map fun d => [48 + d]).flatten = l.map fun d => 48 + d
  induction l with
  | nil => rfl
  | cons a l ih => rw [List.map_cons, List.flatten_cons, ih]; rfl
theorem strs_map {f : Nat → Str} : ∀ l : List Nat, strsD (l.map fun d => D.str (f d)) = some (l.map f)
  | [] => rfl
  | a :: l => by
    show (strsD (l.map fun d => D.str (f d))).map (f a :: ·) = _
    rw [strs_map l]; rfl
theorem sum_one : ∀ l : List Nat, ((l.map fun d => sg (48 + d)).map (·.length)).sum = l.length
  | [] => rfl
  | a :: l => by
    rw [List.map_cons, List.map_cons, List.sum_cons, sum_one l, List.length_cons]
    show 1 + l.length = l.length + 1
    omega
/-- a run's text, wherever the run stands -/
theorem join_ok {v w : Nat} {G : Gam} (hv : ∀ S, dVar v G S = some (.tup (intN l), S)) (hd : ∀ x S, dVar w ((wipeG G [w]).set w x) S = (x.map fun d => (d, S))) (h6 : ∀ d ∈ l, d < 6) (hl : l.length ≤ 1000) :
    dJoin (dCon (.str ("" : Str))) (dLc false [w] (dSeqI (dVar v)) (dgName w) dYes (dCall opStrI (dCons (dVar w) dNil))) G S = some (.str (txt l), S) := by
  have hw := dSeqI_t (f := dVar v) (G := G) (S := S) (S1 := S) (ds := intN l) (hv S)
  have ex := lc_pureY (c := false) (own := [w]) (g := dgName w) (f := dCall opStrI (dCons (dVar w) dNil)) (G := G) (l := l) (e := fun d => D.int (d : Nat)) hw (by rw [List.length_map]) fix_src (fun d => D.str (sg (48 + d))) fun d hm =>
    ⟨(wipeG G [w]).set w (some (.int (d : Nat))), rfl, dCall_of (dOne_of (d := .int (d : Nat)) (S1 := S) (by rw [hd]; rfl)) (str_dig d (h6 d hm) S)⟩
  rw [okv (by rw [List.length_map]; omega)] at ex
  unfold dJoin
  show (dLc false [w] (dSeqI (dVar v)) (dgName w) dYes (dCall opStrI (dCons (dVar w) dNil)) G S).bind _ = _
  rw [ex]
  show (strsD (l.map fun d => D.str (sg (48 + d)))).bind (fun ys => if (ys.map (·.length)).sum + ys.length * 0 ≤ 1000000 then some (D.str (Txt.join ("" : Str) ys), S) else none) = _
  rw [strs_map]
  show (if ((l.map fun d => sg (48 + d)).map (·.length)).sum + (l.map fun d => sg (48 + d)).length * 0 ≤ 1000000 then some (D.str (Txt.join ("" : Str) (l.map fun d => sg (48 + d))), S) else none) = _
  rw [if_pos (by rw [sum_one]; omega), join_txt]
theorem runtext_ok (h6 : ∀ d ∈ l, d < 6) (hl : l.length ≤ 1000) : fn_runtext [.tup (intN l)] S = some (.str (txt l), S) :=
  dFn_rt (G' := [some (.tup (intN l)), none]) (dRetS_of (join_ok (v := 0) (w := 1) (fun _ => rfl) (fun x S => by cases x <;> rfl) h6 hl))
theorem strOk_txt (h6 : ∀ d ∈ l, d < 6) : PyData.strOk (txt l) = true := by
  show (l.map fun d => 48 + d).toArray.all (· < 0x110000) = true
  rw [List.all_toArray, List.all_eq_true]
  intro c hc
  obtain ⟨d, hd, rfl⟩ := List.mem_map.mp hc
  have := h6 d hd
  exact decide_eq_true (by omega)
theorem eqvN : ∀ xs ys : List Int, PyData.eqvAll (xs.map PyData.int) (ys.map PyData.int) = decide (xs = ys)
  | [], [] => rfl
  | [], _ :: _ => rfl
  | _ :: _, [] => rfl
  | x :: xs, y :: ys => by
    show ((x == y) && PyData.eqvAll (xs.map PyData.int) (ys.map PyData.int)) = _
    rw [eqvN xs ys]
    by_cases h1 : x = y <;> by_cases h2 : xs = ys <;> simp [h1, h2]
theorem eq_tupN {xs ys : List Int} : opEq false (.tup (intL xs)) (.tup (intL ys)) S = some (.bl (decide (xs = ys)), S) := by
  unfold opEq eqD
  rw [show eqS (.tup (intL xs)) (.tup (intL ys)) = none from rfl]
  show (eqP S (.tup (intL xs)) (.tup (intL ys))).map _ = _
  unfold eqP
  have e1 : ∀ xs : List Int, pyOf S (.tup (intL xs)) = some (.tuple (xs.map PyData.int)) := fun xs => by
    show (toPs _ (xs.map D.int)).map _ = _
    rw [pys_ints]; rfl
  rw [e1, e1]
  simp only [Option.bind_some]
  have sh : ∀ xs : List Int, SeqAt.shaped (.tuple (xs.map PyData.int)) = true := fun xs => by
    unfold SeqAt.shaped
    have h1 : PyData.canLay0 (.tuple (xs.map PyData.int)) = true := lay_ints xs
    have h2 : PyData.depth (.tuple (xs.map PyData.int)) = 1 := by
      show PyData.depthAll (xs.map PyData.int) + 1 = 1
      rw [dep_ints xs]
    rw [h1, h2]; rfl
  rw [sh, sh]
  show ((some (PyData.eqvAll (xs.map PyData.int) (ys.map PyData.int))) : Option Bool).map _ = _
  rw [eqvN]; rfl
end
section
variable {S : Sto} {n : Nat} {z : Str} {l l2 : List Nat}
theorem atI_lt {α : Type} {l : List α} {r : Nat} (h : r < l.length) : atI l (r : Int) = some l[r] := by
  unfold atI
  have : ixN l.length (r : Int) = some r := by unfold ixN; rw [if_pos (by omega), if_pos (by omega)]; simp
  rw [this]
  exact List.getElem?_eq_getElem h
theorem pick_txt (b : Bag n S) (hn : n ≤ 1000000) (h0 : 0 < (cz z).length) (h1 : (cz z).length < 1000000) : ∃ c S', fn_lawpick [.loc 1, .str z] S = some (.str (sg c), S') ∧ Bag (n + 1) S' := by
  obtain ⟨r, S1, e1, hr, b1, _, _⟩ := draw_k (size := ((cz z).length : Nat)) b hn (by omega) (by omega)
  have hr : r < (cz z).length := by omega
  have el : dCall opLen (dCons (dVar 1) dNil) [some (.loc 1), some (.str z)] S = some (.int ((cz z).length : Nat), S) := by
    refine dCall_of (dOne_of (d := .str z) (S1 := S) rfl) ?_
    show (if z.length ≤ lim then some (D.int (z.length : Nat), S) else none) = _
    rw [if_pos (show z.length ≤ lim from Nat.le_of_lt h1)]; rfl
  refine ⟨(cz z)[r], S1, dFn_rt (G' := [some (.loc 1), some (.str z)]) (dRetS_of (dBin_of (x := .str z) (y := .int (r : Nat)) (S1 := S) (S2 := S1) rfl (dCallF_of (ds := [.loc 1, .int ((cz z).length : Nat)]) (S1 := S) (dCons_of rfl (dOne_of el)) rfl e1) ?_)), b1⟩
  show (if z.length ≤ lim then (atI z.cps.toList (r : Int)).map fun c => (D.str ⟨#[c]⟩, S1) else none) = _
  rw [if_pos (show z.length ≤ lim from Nat.le_of_lt h1), atI_lt hr]; rfl
theorem cut_len {lo hi : Option Int} : (cz (L2.cutS z lo hi)).length ≤ (cz z).length := by
  show (((z.cps.toList.drop _).take _).toArray).toList.length ≤ z.cps.toList.length
  rw [List.toList_toArray, List.length_take, List.length_drop]
  omega
theorem cz_add {a b : Str} : (cz (a ++ b)).length = (cz a).length + (cz b).length := by
  show (a.cps ++ b.cps).toList.length = _
  rw [Array.toList_append, List.length_append]
theorem bent_ok (b : Bag n S) (hn : n ≤ 900000) (hl : (cz z).length ≤ 10000) : ∃ w S', fn_lawbent [.loc 1, .str z] S = some (.str w, S') ∧ (cz w).length ≤ 2 * (cz z).length + 1 ∧ Bag (n + 4) S' := by
  let G (d2 d3 d4 : Option D) : Gam := [some (.loc 1), some (.str z), d2, d3, d4]
  obtain ⟨a, S1, e1, ha, b1, _, _⟩ := draw_k (size := 3) b (by omega) (by decide) (by decide)
  obtain ⟨s, S2, e2, hs, b2, _, _⟩ := draw_k (size := ((cz z).length + 1 : Nat)) b1 (by omega) (by omega) (by omega)
  let A : Option D := some (.int (a : Nat))
  let P : Option D := some (.int (s : Nat))
  have el : dCall opLen (dCons (dVar 1) dNil) (G none none none) S1 = some (.int ((cz z).length : Nat), S1) := by
    refine dCall_of (dOne_of (d := .str z) (S1 := S1) rfl) ?_
    show (if z.length ≤ lim then some (D.int (z.length : Nat), S1) else none) = _
    rw [if_pos (show z.length ≤ lim from Nat.le_trans hl (by decide))]; rfl
  have f1 : dPar 2 3 (dCons (dCallF 2 (dCons (dVar 0) (dCons (dCon (.int 3)) dNil)) fn_lawdraw) (dCons (dCallF 2 (dCons (dVar 0) (dCons (dBin (opAdd false) (dCall opLen (dCons (dVar 1) dNil)) (dCon (.int 1))) dNil)) fn_lawdraw) dNil)) (G none none none) S = some (.nx, G A P none, S2) :=
    dPar_of (x := .int (a : Nat)) (y := .int (s : Nat)) (S1 := S2) (dCons_of (dCallF_of (ds := [.loc 1, .int 3]) (S1 := S) rfl rfl e1) (dOne_of (dCallF_of (ds := [.loc 1, .int (((cz z).length + 1 : Nat) : Int)]) (S1 := S1) (dCons_of rfl (dOne_of (dBin_of (x := .int ((cz z).length : Nat)) (y := .int 1) (S1 := S1) (S2 := S1) el rfl rfl))) rfl e2)))
  have pn : fn_lawprintable [] S2 = some (.str (" !\"#$&'()*+,-./0123456789:;<=>?@ABCDEFGHIJKLMNOPQRSTUVWXYZ[\\]^_`abcdefghijklmnopqrstuvwxyz{|}~" : Str), S2) := rfl
  obtain ⟨c, S3, e3, b3⟩ := pick_txt (z := (" !\"#$&'()*+,-./0123456789:;<=>?@ABCDEFGHIJKLMNOPQRSTUVWXYZ[\\]^_`abcdefghijklmnopqrstuvwxyz{|}~" : Str)) b2 (by omega) (by decide +kernel) (by decide +kernel)
  let fl : List Str := ["6", "7", "9", " ", "-", "\n", "", "0", "5", sg c]
  obtain ⟨r, hr, S4, e4, b4, _, _⟩ := pick_ok (ds := fl.map D.str) (x := .lst (fl.map D.str)) b3 (by omega) (fun _ => rfl) (by show 0 < 10; decide) (by show 10 < 1000000; decide)
  obtain ⟨f, hf, ef⟩ := strs_get hr
  rw [ef] at e4
  have fl1 : (cz f).length ≤ 1 := by
    have : ∀ x ∈ (["6", "7", "9", " ", "-", "\n", "", "0", "5"] : List Str), (cz x).length ≤ 1 := by decide +kernel
    rcases List.mem_append.mp (show f ∈ (["6", "7", "9", " ", "-", "\n", "", "0", "5"] : List Str) ++ [sg c] from hf) with h | h
    · exact this f h
    · rw [List.mem_singleton.mp h]; exact Nat.le_refl 1
  let F : Option D := some (.str f)
  have f2 : dAsg (dCallF 2 (dCons (dVar 0) (dCons (dLst false (dCons (dCon (.str ("6" : Str))) (dCons (dCon (.str ("7" : Str))) (dCons (dCon (.str ("9" : Str))) (dCons (dCon (.str (" " : Str))) (dCons (dCon (.str ("-" : Str))) (dCons (dCon (.str ("\n" : Str))) (dCons (dCon (.str ("" : Str))) (dCons (dCon (.str ("0" : Str))) (dCons (dCon (.str ("5" : Str))) (dCons (dCallF 2 (dCons (dVar 0) (dCons (dCallF 0 dNil fn_lawprintable) dNil)) fn_lawpick) dNil))))))))))) dNil)) fn_lawpick) (dgName 4) (G A P none) S2 = some (.nx, G A P F, S4) := by
    have ep : dCallF 2 (dCons (dVar 0) (dCons (dCallF 0 dNil fn_lawprintable) dNil)) fn_lawpick (G A P none) S2 = some (.str (sg c), S3) := dCallF_of (ds := [.loc 1, .str _]) (S1 := S2) (dCons_of rfl (dOne_of (dCallF_of (ds := []) (S1 := S2) rfl rfl pn))) rfl e3
    refine dAsg_of (dCallF_of (ds := [.loc 1, .lst (fl.map D.str)]) (S1 := S3) (dCons_of rfl (dOne_of (dLst_of (ds := fl.map D.str) (S1 := S3) ?_ (by show 10 ≤ 1000000; decide)))) rfl e4)
    exact dCons_of rfl (dCons_of rfl (dCons_of rfl (dCons_of rfl (dCons_of rfl (dCons_of rfl (dCons_of rfl (dCons_of rfl (dCons_of rfl (dOne_of ep)))))))))
  let H : Gam := G A P F
  let x1 : Str := L2.cutS z none (some (s : Int))
  let x2 : Str := if (0 : Int) < (a : Int) then f else ""
  let t : Int := (s : Int) + (if a = 1 then 0 else 1)
  let x3 : Str := L2.cutS z (some t) none
  have zl : z.length ≤ 1000000 := Nat.le_trans hl (by decide)
  have v1 : dSlS (dVar 1) doNone (doSome (dVar 3)) H S4 = some (.str x1, S4) := by
    show (if z.length ≤ 1000000 then some (D.str (L2.cutS z none (some (s : Int))), S4) else none) = _
    rw [if_pos zl]
  have c2 : dCmpT (opCmp fun i j => decide (j < i)) (dVar 2) (dCon (.int 0)) H S4 = some (decide ((0 : Int) < (a : Int)), S4) := dCmpT_of (x := .int (a : Nat)) (y := .int 0) (S1 := S4) (S2 := S4) rfl rfl rfl
  have v2 : dIf (dCmpT (opCmp fun i j => decide (j < i)) (dVar 2) (dCon (.int 0))) (dVar 4) (dCon (.str ("" : Str))) H S4 = some (.str x2, S4) := by
    show _ = some (D.str (if (0 : Int) < (a : Int) then f else ""), S4)
    by_cases h : (0 : Int) < (a : Int)
    · rw [decide_eq_true h] at c2
      rw [if_pos h]
      exact (dIf_t c2).trans rfl
    · rw [decide_eq_false h] at c2
      rw [if_neg h]
      exact (dIf_f c2).trans rfl
  have v3 : dSlS (dVar 1) (doSome (dBin (opAdd false) (dVar 3) (dCall opInt (dCons (dBin (opEq true) (dVar 2) (dCon (.int 1))) dNil)))) doNone H S4 = some (.str x3, S4) := by
    have q : dBin (opAdd false) (dVar 3) (dCall opInt (dCons (dBin (opEq true) (dVar 2) (dCon (.int 1))) dNil)) H S4 = some (.int t, S4) := by
      refine dBin_of (x := .int (s : Nat)) (y := .int (if a = 1 then 0 else 1)) (S1 := S4) (S2 := S4) rfl (dCall_of (dOne_of (d := .bl (!decide ((a : Int) = 1))) (S1 := S4) (dBin_of (x := .int (a : Nat)) (y := .int 1) (S1 := S4) (S2 := S4) rfl rfl ne_int)) ?_) rfl
      by_cases h : a = 1
      · rw [if_pos h, decide_eq_true (by omega)]; rfl
      · rw [if_neg h, decide_eq_false (by omega)]; rfl
    have qs : doSome (dBin (opAdd false) (dVar 3) (dCall opInt (dCons (dBin (opEq true) (dVar 2) (dCon (.int 1))) dNil))) H S4 = some (some t, S4) := by
      unfold doSome
      rw [q]; rfl
    unfold dSlS
    rw [show dVar 1 H S4 = some (.str z, S4) from rfl]
    rw [Option.bind_some]
    rw [show ∀ S : Sto, (((D.str z, S) : D × Sto).2) = S from fun _ => rfl, qs]
    show (if z.length ≤ 1000000 then some (D.str (L2.cutS z (some t) none), S4) else none) = _
    rw [if_pos zl]
  have l1 : (cz x1).length ≤ (cz z).length := cut_len
  have l3 : (cz x3).length ≤ (cz z).length := cut_len
  have l2 : (cz x2).length ≤ 1 := by
    show (cz (if (0 : Int) < (a : Int) then f else "")).length ≤ 1
    split
    · exact fl1
    · exact Nat.zero_le _
  have a1 : opAdd false (.str x1) (.str x2) S4 = some (.str (x1 ++ x2), S4) := by
    show (if x1.length + x2.length ≤ lim then some (D.str (x1 ++ x2), S4) else none) = _
    rw [if_pos (show x1.length + x2.length ≤ lim by show (cz x1).length + (cz x2).length ≤ 1000000; omega)]
  have l12 : (cz (x1 ++ x2)).length ≤ (cz z).length + 1 := by rw [cz_add]; omega
  have a2 : opAdd false (.str (x1 ++ x2)) (.str x3) S4 = some (.str (x1 ++ x2 ++ x3), S4) := by
    show (if (x1 ++ x2).length + x3.length ≤ lim then some (D.str (x1 ++ x2 ++ x3), S4) else none) = _
    rw [if_pos (show (x1 ++ x2).length + x3.length ≤ lim by show (cz (x1 ++ x2)).length + (cz x3).length ≤ 1000000; omega)]
  refine ⟨x1 ++ x2 ++ x3, S4, dFn_rt (G' := H) ((dSeq_nx f1).trans ((dSeq_nx f2).trans (dRetS_of (dBin_of (dBin_of v1 v2 a1) v3 a2)))), by rw [cz_add]; omega, b4⟩
end
end
end Vk
set_option maxRecDepth 100000
set_option maxHeartbeats 4000000
namespace Vk
open PySem PySem.Spec L2 Vw
noncomputable section
section
variable {S : Sto} {n : Nat} {z : Str} {l l2 : List Nat} {sc d2 d3 d4 d5 d6 d7 d8 d9 d10 d11 d12 : Option D}
/-- the law's frame -/
abbrev fr (sc d2 d3 d4 d5 d6 d7 d8 d9 d10 d11 d12 : Option D) : Gam := [sc, some (.loc 1), d2, d3, d4, d5, d6, d7, d8, d9, d10, d11, d12, none, none]
theorem bag_pre {S' : Sto} (b : Bag n S) (p : Pre S S') : Bag n S' := by
  obtain ⟨R, rfl⟩ := p
  exact b.app
theorem pick_nat {L : List Nat} (b : Bag n S) (hn : n ≤ 1000000) (h0 : 0 < L.length) (h1 : L.length < 1000000) : ∃ k ∈ L, ∃ S', fn_lawpick [.loc 1, .lst (intN L)] S = some (.int (k : Nat), S') ∧ Bag (n + 1) S' := by
  obtain ⟨r, hr, S1, e1, b1, _, _⟩ := pick_ok (ds := intN L) (x := .lst (intN L)) b hn (fun _ => rfl) (by rw [List.length_map]; exact h0) (by rw [List.length_map]; exact h1)
  obtain ⟨k, hk, ek⟩ := List.mem_map.mp (List.getElem_mem hr)
  rw [← ek] at e1
  exact ⟨k, hk, S1, e1, b1⟩
theorem moves_ok (b : Bag n S) (hn : n ≤ 900000) : ∃ l S', dCall opTuple (dCons (dLc false [13] (dRng1 (dCons (dCallF 2 (dCons (dVar 1) (dCons (dLst false (dCons (dCon (.int 0)) (dCons (dCon (.int 1)) (dCons (dCon (.int 3)) (dCons (dCon (.int 8)) (dCons (dCon (.int 30)) dNil)))))) dNil)) fn_lawpick) dNil)) (dgName 13) dYes (dCallF 2 (dCons (dVar 1) (dCons (dCon (.int 6)) dNil)) fn_lawdraw)) dNil) (fr sc d2 d3 d4 d5 d6 d7 d8 d9 d10 d11 d12) S = some (.tup (intN l), S') ∧ l.length ≤ 30 ∧ (∀ d ∈ l, d < 6) ∧ ∃ m, m ≤ n + 31 ∧ Bag m S' := by
  let G := fr sc d2 d3 d4 d5 d6 d7 d8 d9 d10 d11 d12
  obtain ⟨k, hk, S1, e1, b1⟩ := pick_nat (L := [0, 1, 3, 8, 30]) b (by omega) (by decide) (by decide)
  have hk30 : k ≤ 30 := by
    have : ∀ k ∈ ([0, 1, 3, 8, 30] : List Nat), k ≤ 30 := by decide
    exact this k hk
  have hw := rng1_okT (fs := dCons (dCallF 2 (dCons (dVar 1) (dCons (dLst false (dCons (dCon (.int 0)) (dCons (dCon (.int 1)) (dCons (dCon (.int 3)) (dCons (dCon (.int 8)) (dCons (dCon (.int 30)) dNil)))))) dNil)) fn_lawpick) dNil) (k := k) (G := G) (S := S) (S1 := S1) (dOne_of (dCallF_of (ds := [.loc 1, .lst (intN [0, 1, 3, 8, 30])]) (S1 := S) (dCons_of rfl (dOne_of (dLst_of (ds := intN [0, 1, 3, 8, 30]) (S1 := S) rfl (by show 5 ≤ 1000000; decide)))) rfl e1)) (by omega)
  obtain ⟨out, S2, e2, l, rfl, h6, hl, b2⟩ := lc_inv (src := fixS (rngD 0 (k : Int))) (g := dgName 13) (t := dYes) (f := dCallF 2 (dCons (dVar 1) (dCons (dCon (.int 6)) dNil)) fn_lawdraw) (G := G) (ds := rngD 0 (k : Int))
    (fun i S' acc => ∃ l : List Nat, acc = intN l ∧ (∀ d ∈ l, d < 6) ∧ l.length = i ∧ Bag (n + 1 + i) S') (fun j S' acc h => rfl)
    (fun i S' acc d hd h => by
      obtain ⟨l, rfl, h6, rfl, hb⟩ := h
      have hi : l.length < k := by have := (List.getElem?_eq_some_iff.mp hd).1; rwa [rngD_len] at this
      obtain ⟨a, S2, e2, ha, b2, _, _⟩ := draw_k (size := 6) hb (by omega) (by decide) (by decide)
      refine ⟨_, S', true, S', rfl, rfl, fun _ => ⟨.int (a : Nat), S2, dCallF_of (ds := [.loc 1, .int 6]) (S1 := S') rfl rfl e2, l ++ [a], ?_, fun d hd => ?_, ?_, b2⟩, fun h => by cases h⟩
      · show _ = (l ++ [a]).map _
        rw [List.map_append]; rfl
      · rcases List.mem_append.mp hd with h | h
        · exact h6 d h
        · rw [List.mem_singleton.mp h]; omega
      · rw [List.length_append]; rfl) k 0 S1 [] (by rw [rngD_len]; omega) ⟨[], rfl, (fun _ h => by cases h), rfl, b1⟩
  rw [rngD_len] at hl b2
  have ec := dLc_of (c := false) (own := [13]) (G := G) hw e2
  rw [okv (by rw [List.length_map]; omega)] at ec
  exact ⟨l, S2, dCall_of (dOne_of ec) (tuple_of rfl (by rw [List.length_map]; omega)), by omega, h6, n + 1 + k, by omega, b2⟩
theorem natL_inj : ∀ {a b : List Nat}, natL a = natL b → a = b
  | [], [], _ => rfl
  | [], _ :: _, h => by cases h
  | _ :: _, [], h => by cases h
  | x :: a, y :: b, h => by
    have h1 : ((x : Nat) : Int) = (y : Nat) := (List.cons.inj h).1
    have h2 : x = y := by omega
    rw [natL_inj (List.cons.inj h).2, h2]
theorem ne_bl (a : Bool) (S : Sto) : opEq true (.bl a) (.bl a) S = some (.bl false, S) := by cases a <;> rfl
theorem isi_no {x : D} {t : String} (h : ∀ S, tyN S x = some t) (k : kitB t "str" = some false) : DueP x (txD 0) :=
  due_odd fun f G S e => by
    unfold dIsi
    rw [e]
    show ((tyN S x).bind fun t => (kitB t "str").map fun b => (D.bl b, S)) = _
    rw [h, Option.bind_some, k]; rfl
def oddL (l : List Nat) : List D := [.non, .bl true, .int 0, .tup (intN l), .lst [.str ("0" : Str)], .str ("" : Str), .str ("0 1" : Str), .str ("01\n" : Str)]
theorem odd_due : ∀ x ∈ oddL l, ∃ due, DueP x due := by
  intro x hx
  have ks : ∀ t ∈ ["NoneType", "bool", "int", "tuple", "list"], kitB t "str" = some false := by decide +kernel
  have tx : ∀ y ∈ (["", "0 1", "01\n"] : List Str), (cz y).length ≤ 100000 := by decide +kernel
  rcases hx with _ | ⟨_, hx⟩
  · exact ⟨_, isi_no (fun _ => rfl) (ks "NoneType" (by simp))⟩
  rcases hx with _ | ⟨_, hx⟩
  · exact ⟨_, isi_no (fun _ => rfl) (ks "bool" (by simp))⟩
  rcases hx with _ | ⟨_, hx⟩
  · exact ⟨_, isi_no (fun _ => rfl) (ks "int" (by simp))⟩
  rcases hx with _ | ⟨_, hx⟩
  · exact ⟨_, isi_no (fun _ => rfl) (ks "tuple" (by simp))⟩
  rcases hx with _ | ⟨_, hx⟩
  · exact ⟨_, isi_no (fun _ => rfl) (ks "list" (by simp))⟩
  rcases hx with _ | ⟨_, hx⟩
  · exact due_txt (tx "" (by simp))
  rcases hx with _ | ⟨_, hx⟩
  · exact due_txt (tx "0 1" (by simp))
  rcases hx with _ | ⟨_, hx⟩
  · exact due_txt (tx "01\n" (by simp))
  cases hx
abbrev turnB : DS :=
    (dSeq (dAsg (dCall opTuple (dCons (dLc false [13] (dRng1 (dCons (dCallF 2 (dCons (dVar 1) (dCons (dLst false (dCons (dCon (.int 0)) (dCons (dCon (.int 1)) (dCons (dCon (.int 3)) (dCons (dCon (.int 8)) (dCons (dCon (.int 30)) dNil)))))) dNil)) fn_lawpick) dNil)) (dgName 13) dYes (dCallF 2 (dCons (dVar 1) (dCons (dCon (.int 6)) dNil)) fn_lawdraw)) dNil)) (dgName 3))
    (dSeq (dAsg (dBin (opAdd false) (dSlG false (dVar 3) doNone (doSome (dUn opNeg (dCon (.int 1))))) (dTup (dCons (dCallF 2 (dCons (dVar 1) (dCons (dCon (.int 6)) dNil)) fn_lawdraw) dNil))) (dgName 4))
    (dSeq (dPar 5 6 (dCons (dCall opRepr (dCons (dVar 3) dNil)) (dCons (dJoin (dCon (.str ("" : Str))) (dLc false [14] (dSeqI (dVar 3)) (dgName 14) dYes (dCall opStrI (dCons (dVar 14) dNil)))) dNil)))
    (dSeq (dAsg (dLst false (dCons (dCallW 1 0 1 [0] dNone (dkCons (dVar 3) dNone) fn_runtext) (dCons (dCallF 1 (dCons (dVar 3) dNil) fn_runtext) (dCons (dCallF 1 (dCons (dVar 4) dNil) fn_runtext) dNil)))) (dgName 7))
    (dSeq (dIte (dOr (dCmpT (opEq true) (dSlG false (dVar 7) doNone (doSome (dCon (.int 2)))) (dLst false (dCons (dVar 6) (dCons (dVar 6) dNil)))) (dCmpT (opEq true) (dBin (opEq false) (dBin opIx (dVar 7) (dCon (.int 2))) (dVar 6)) (dBin (opEq false) (dVar 4) (dVar 3))))
    (dSeq (dRet (dCon (.bl false)))
    dSkip) dSkip)
    (dSeq (dIte (dOr (dCmpT (opEq true) (dCall opRepr (dCons (dCallF 1 (dCons (dBin opIx (dVar 7) (dCon (.int 0))) dNil) fn_readrun) dNil)) (dVar 5)) (dNot (dTst (dCallF 2 (dCons (dVar 6) (dCons (dBin (opEq false) (dVar 2) (dCon (.int 1))) dNil)) fn_lawisright))))
    (dSeq (dRet (dCon (.bl false)))
    dSkip) dSkip)
    (dSeq (dAsg (dCallF 2 (dCons (dVar 1) (dCons (dVar 6) dNil)) fn_lawbent) (dgName 8))
    (dSeq (dFor (dSeqI (dTup (dCons (dVar 8) (dCons (dCallF 2 (dCons (dVar 1) (dCons (dVar 8) dNil)) fn_lawbent) (dCons (dCallF 2 (dCons (dVar 1) (dCons (dLst false (dCons (dCon .non) (dCons (dCon (.bl true)) (dCons (dCon (.int 0)) (dCons (dVar 3) (dCons (dLst false (dCons (dCon (.str ("0" : Str))) dNil)) (dCons (dCon (.str ("" : Str))) (dCons (dCon (.str ("0 1" : Str))) (dCons (dCon (.str ("01\n" : Str))) dNil))))))))) dNil)) fn_lawpick) dNil))))) (dgName 9)
    (dSeq (dIte (dNot (dTst (dCallF 2 (dCons (dVar 9) (dCons (dBin (opEq false) (dVar 2) (dCon (.int 2))) dNil)) fn_lawisright)))
    (dSeq (dRet (dCon (.bl false)))
    dSkip) dSkip)
    dSkip))
    (dSeq (dIte (dCmpT (opEq true) (dCall opRepr (dCons (dVar 3) dNil)) (dVar 5))
    (dSeq (dRet (dCon (.bl false)))
    dSkip) dSkip)
    dSkip)))))))))
theorem turn_ok {t : Nat} (b : Bag n S) (hn : n ≤ 800000) : ∃ a3 a4 a5 a6 a7 a8 a9 S', turnB (fr sc (some (.int (t : Nat))) d3 d4 d5 d6 d7 d8 d9 d10 d11 d12) S = some (.nx, fr sc (some (.int (t : Nat))) a3 a4 a5 a6 a7 a8 a9 d10 d11 d12, S') ∧ ∃ m, m ≤ n + 50 ∧ Bag m S' := by
  let G (a3 a4 a5 a6 a7 a8 a9 : Option D) : Gam := fr sc (some (.int (t : Nat))) a3 a4 a5 a6 a7 a8 a9 d10 d11 d12
  obtain ⟨l, S1, e1, l30, h6, m1, hm1, b1⟩ := moves_ok (sc := sc) (d2 := some (.int (t : Nat))) (d3 := d3) (d4 := d4) (d5 := d5) (d6 := d6) (d7 := d7) (d8 := d8) (d9 := d9) (d10 := d10) (d11 := d11) (d12 := d12) b (by omega)
  let L : Option D := some (.tup (intN l))
  have f1 := dAsg_of (i := 3) e1
  obtain ⟨a, S2, e2, ha, b2, _, _⟩ := draw_k (size := 6) b1 (by omega) (by decide) (by decide)
  let mo : List Nat := l.dropLast ++ [a]
  have mo6 : ∀ d ∈ mo, d < 6 := fun d hd => by
    rcases List.mem_append.mp hd with h | h
    · exact h6 d (List.dropLast_subset l h)
    · rw [List.mem_singleton.mp h]; omega
  have mol : mo.length ≤ 31 := by
    show (l.dropLast ++ [a]).length ≤ 31
    rw [List.length_append, List.length_dropLast]
    show l.length - 1 + 1 ≤ 31
    omega
  have dl : cutD (intN l) none (some (-1)) = intN l.dropLast := by rw [cut_last]; simp [List.map_dropLast]
  have v2 : dSlG false (dVar 3) doNone (doSome (dUn opNeg (dCon (.int 1)))) (G L d4 d5 d6 d7 d8 d9) S1 = some (.tup (intN l.dropLast), S1) := by
    have := dSlT_of (c := false) (fe := dVar 3) (fl := doNone) (fh := doSome (dUn opNeg (dCon (.int 1)))) (G := G L d4 d5 d6 d7 d8 d9) (S := S1) (S1 := S1) (S2 := S1) (S3 := S1) (xs := intN l) (l := none) (h := some (-1)) rfl rfl rfl (by rw [dl, List.length_map, List.length_dropLast]; omega)
    rw [dl] at this
    exact this
  have f2 : dAsg (dBin (opAdd false) (dSlG false (dVar 3) doNone (doSome (dUn opNeg (dCon (.int 1))))) (dTup (dCons (dCallF 2 (dCons (dVar 1) (dCons (dCon (.int 6)) dNil)) fn_lawdraw) dNil))) (dgName 4) (G L d4 d5 d6 d7 d8 d9) S1 = some (.nx, G L (some (.tup (intN mo))) d5 d6 d7 d8 d9, S2) := by
    refine dAsg_of (dBin_of (x := .tup (intN l.dropLast)) (y := .tup [.int (a : Nat)]) (S1 := S1) (S2 := S2) v2 (dTup_of (dOne_of (dCallF_of (ds := [.loc 1, .int 6]) (S1 := S1) rfl rfl e2)) (by show 1 ≤ 1000000; decide)) ?_)
    show okTup (intN l.dropLast ++ [.int (a : Nat)]) S2 = some (.tup (intN (l.dropLast ++ [a])), S2)
    rw [show intN (l.dropLast ++ [a]) = intN l.dropLast ++ [.int (a : Nat)] from List.map_append]
    unfold okTup
    rw [if_pos (by rw [List.length_append, List.length_map, List.length_dropLast]; show l.length - 1 + 1 ≤ 1000000; omega)]
  let MO : Option D := some (.tup (intN mo))
  obtain ⟨p, ep, sm, dp⟩ := ints_py (l := l) (by omega) fun x hx => by have := h6 x hx; omega
  have rp : ∀ S, opRepr [.tup (intN l)] S = some (.str p.shown, S) := fun S => repr_ok (ep _) (sm.mono (by decide))
  let P : Option D := some (.str p.shown)
  let T : Option D := some (.str (txt l))
  have f3 : dPar 5 6 (dCons (dCall opRepr (dCons (dVar 3) dNil)) (dCons (dJoin (dCon (.str ("" : Str))) (dLc false [14] (dSeqI (dVar 3)) (dgName 14) dYes (dCall opStrI (dCons (dVar 14) dNil)))) dNil)) (G L MO d5 d6 d7 d8 d9) S2 = some (.nx, G L MO P T d7 d8 d9, S2) :=
    dPar_of (x := .str p.shown) (y := .str (txt l)) (S1 := S2) (dCons_of (dCall_of (dOne_of (d := .tup (intN l)) (S1 := S2) rfl) (rp S2)) (dOne_of (join_ok (v := 3) (w := 14) (G := G L MO d5 d6 d7 d8 d9) (fun _ => rfl) (fun x S => by cases x <;> rfl) h6 (by omega))))
  have rt := fun S => runtext_ok (S := S) h6 (by omega : l.length ≤ 1000)
  have rt2 := fun S => runtext_ok (S := S) mo6 (by omega : mo.length ≤ 1000)
  let TD : Option D := some (.lst [.str (txt l), .str (txt l), .str (txt mo)])
  have k1 : dCallW 1 0 1 [0] dNone (dkCons (dVar 3) dNone) fn_runtext (G L MO P T d7 d8 d9) S2 = some (.str (txt l), S2) := (show _ = fn_runtext [.tup (intN l)] S2 from rfl).trans (rt S2)
  have f4 : dAsg (dLst false (dCons (dCallW 1 0 1 [0] dNone (dkCons (dVar 3) dNone) fn_runtext) (dCons (dCallF 1 (dCons (dVar 3) dNil) fn_runtext) (dCons (dCallF 1 (dCons (dVar 4) dNil) fn_runtext) dNil)))) (dgName 7) (G L MO P T d7 d8 d9) S2 = some (.nx, G L MO P T TD d8 d9, S2) :=
    dAsg_of (dLst_of (ds := [.str (txt l), .str (txt l), .str (txt mo)]) (dCons_of k1 (dCons_of (dCallF_of (ds := [.tup (intN l)]) (S1 := S2) rfl rfl (rt S2)) (dOne_of (dCallF_of (ds := [.tup (intN mo)]) (S1 := S2) rfl rfl (rt2 S2))))) (by show 3 ≤ 1000000; decide))
  have c5a : dCmpT (opEq true) (dSlG false (dVar 7) doNone (doSome (dCon (.int 2)))) (dLst false (dCons (dVar 6) (dCons (dVar 6) dNil))) (G L MO P T TD d8 d9) S2 = some (false, S2) :=
    dCmpT_of (x := .lst ([txt l, txt l].map D.str)) (y := .lst ([txt l, txt l].map D.str)) (S1 := S2) (S2 := S2) rfl (dLst_of (ds := [.str (txt l), .str (txt l)]) (S1 := S2) rfl (by show 2 ≤ 1000000; decide)) (ne_strs fun x hx => by
      rcases hx with _ | ⟨_, hx⟩
      · exact strOk_txt h6
      rcases hx with _ | ⟨_, hx⟩
      · exact strOk_txt h6
      cases hx)
  have dec : decide (txt mo = txt l) = decide (natL mo = natL l) := decide_eq_decide.mpr ⟨fun h => by rw [txt_inj h], fun h => by rw [natL_inj h]⟩
  have c5b : dCmpT (opEq true) (dBin (opEq false) (dBin opIx (dVar 7) (dCon (.int 2))) (dVar 6)) (dBin (opEq false) (dVar 4) (dVar 3)) (G L MO P T TD d8 d9) S2 = some (false, S2) := by
    refine dCmpT_of (x := .bl (decide (txt mo = txt l))) (y := .bl (decide (natL mo = natL l))) (S1 := S2) (S2 := S2) (dBin_of (x := .str (txt mo)) (y := .str (txt l)) (S1 := S2) (S2 := S2) (dBin_of (x := .lst [.str (txt l), .str (txt l), .str (txt mo)]) (y := .int 2) (S1 := S2) (S2 := S2) rfl rfl (ix_seq' (r := 2) rfl rfl)) rfl eq_str) (dBin_of (x := .tup (intL (natL mo))) (y := .tup (intL (natL l))) (S1 := S2) (S2 := S2) ?_ ?_ eq_tupN) ?_
    · rw [← int_mapN]; rfl
    · rw [← int_mapN]; rfl
    · rw [dec]; exact ne_bl _ S2
  -- told, read again
  obtain ⟨⟨S3, e3, p3⟩, _⟩ := run_good (z := txt l) (S := S2) (ok_txt h6 (by omega))
  rw [digs_txt] at e3
  have b3 := bag_pre b2 p3
  have c6a : dCmpT (opEq true) (dCall opRepr (dCons (dCallF 1 (dCons (dBin opIx (dVar 7) (dCon (.int 0))) dNil) fn_readrun) dNil)) (dVar 5) (G L MO P T TD d8 d9) S2 = some (false, S3) :=
    dCmpT_of (x := .str p.shown) (y := .str p.shown) (S1 := S3) (S2 := S3) (dCall_of (dOne_of (dCallF_of (ds := [.str (txt l)]) (S1 := S2) (dOne_of (dBin_of (x := .lst [.str (txt l), .str (txt l), .str (txt mo)]) (y := .int 0) (S1 := S2) (S2 := S2) rfl rfl (ix_seq' (r := 0) rfl rfl))) rfl e3)) (rp S3)) rfl (by rw [ne_str, decide_eq_true rfl]; rfl)
  have lt : (cz (txt l)).length ≤ 30 := by rw [cz_txt, List.length_map]; exact l30
  obtain ⟨due, du⟩ := due_txt (z := txt l) (by omega)
  obtain ⟨S4, e4, p4⟩ := right_ok (S := S3) (b := decide ((t : Int) = 1)) du
  have b4 := bag_pre b3 p4
  have c6b : dNot (dTst (dCallF 2 (dCons (dVar 6) (dCons (dBin (opEq false) (dVar 2) (dCon (.int 1))) dNil)) fn_lawisright)) (G L MO P T TD d8 d9) S3 = some (false, S4) :=
    dNot_of (b := true) (dTst_of (dCallF_of (ds := [.str (txt l), .bl (decide ((t : Int) = 1))]) (S1 := S3) rfl rfl e4))
  -- bent
  obtain ⟨w, S5, e5, wl, b5⟩ := bent_ok (z := txt l) b4 (by omega) (by omega)
  let W : Option D := some (.str w)
  have f7 : dAsg (dCallF 2 (dCons (dVar 1) (dCons (dVar 6) dNil)) fn_lawbent) (dgName 8) (G L MO P T TD d8 d9) S4 = some (.nx, G L MO P T TD W d9, S5) := dAsg_of (dCallF_of (ds := [.loc 1, .str (txt l)]) (S1 := S4) rfl rfl e5)
  obtain ⟨w2, S6, e6, wl2, b6⟩ := bent_ok (z := w) b5 (by omega) (by omega)
  obtain ⟨r, hr, S7, e7, b7, _, _⟩ := pick_ok (ds := oddL l) (x := .lst (oddL l)) b6 (by omega) (fun _ => rfl) (by show 0 < 8; decide) (by show 8 < 1000000; decide)
  let x := (oddL l)[r]
  let H : Gam := G L MO P T TD W d9
  have hs : dSeqI (dTup (dCons (dVar 8) (dCons (dCallF 2 (dCons (dVar 1) (dCons (dVar 8) dNil)) fn_lawbent) (dCons (dCallF 2 (dCons (dVar 1) (dCons (dLst false (dCons (dCon .non) (dCons (dCon (.bl true)) (dCons (dCon (.int 0)) (dCons (dVar 3) (dCons (dLst false (dCons (dCon (.str ("0" : Str))) dNil)) (dCons (dCon (.str ("" : Str))) (dCons (dCon (.str ("0 1" : Str))) (dCons (dCon (.str ("01\n" : Str))) dNil))))))))) dNil)) fn_lawpick) dNil)))) H S5 = some (fixS [.str w, .str w2, x], 3 + 1, S7) := by
    refine dSeqI_t (ds := [.str w, .str w2, x]) (dTup_of (dCons_of (d := .str w) (S1 := S5) rfl (dCons_of (dCallF_of (ds := [.loc 1, .str w]) (S1 := S5) rfl rfl e6) (dOne_of (dCallF_of (ds := [.loc 1, .lst (oddL l)]) (S1 := S6) (dCons_of rfl (dOne_of (dLst_of (ds := oddL l) (S1 := S6) rfl (by show 8 ≤ 1000000; decide)))) rfl e7)))) (by show 3 ≤ 1000000; decide))
  have dues : ∀ y ∈ [D.str w, .str w2, x], ∃ due, DueP y due := fun y hy => by
    rcases hy with _ | ⟨_, hy⟩
    · exact due_txt (by omega)
    rcases hy with _ | ⟨_, hy⟩
    · exact due_txt (by omega)
    rcases hy with _ | ⟨_, hy⟩
    · exact odd_due _ (List.getElem_mem hr)
    cases hy
  obtain ⟨G8, S8, e8, a9, rfl, b8⟩ := for_inv (src := fixS [.str w, .str w2, x]) (g := dgName 9) (b := dSeq (dIte (dNot (dTst (dCallF 2 (dCons (dVar 9) (dCons (dBin (opEq false) (dVar 2) (dCon (.int 2))) dNil)) fn_lawisright))) (dSeq (dRet (dCon (.bl false))) dSkip) dSkip) dSkip) (ds := [.str w, .str w2, x])
    (fun i G' S' => ∃ a9, G' = G L MO P T TD W a9 ∧ Bag (m1 + 1 + 4 + 4 + 1) S') (fun i G' S' h => rfl)
    (fun i G' S' d hd h => by
      obtain ⟨a9, rfl, hb⟩ := h
      obtain ⟨due, du⟩ := dues d (List.mem_of_getElem? hd)
      obtain ⟨S9, e9, p9⟩ := right_ok (S := S') (b := decide ((t : Int) = 2)) du
      refine ⟨G L MO P T TD W (some d), S', G L MO P T TD W (some d), S9, rfl, ?_, some d, rfl, bag_pre hb p9⟩
      have c : dNot (dTst (dCallF 2 (dCons (dVar 9) (dCons (dBin (opEq false) (dVar 2) (dCon (.int 2))) dNil)) fn_lawisright)) (G L MO P T TD W (some d)) S' = some (false, S9) := dNot_of (b := true) (dTst_of (dCallF_of (ds := [d, .bl (decide ((t : Int) = 2))]) (S1 := S') rfl rfl e9))
      exact (dSeq_no c rfl).trans rfl) 3 0 H S7 rfl ⟨d9, rfl, b7⟩
  have c9 : dCmpT (opEq true) (dCall opRepr (dCons (dVar 3) dNil)) (dVar 5) (G L MO P T TD W a9) S8 = some (false, S8) := dCmpT_of (x := .str p.shown) (y := .str p.shown) (S1 := S8) (S2 := S8) (dCall_of (dOne_of (d := .tup (intN l)) (S1 := S8) rfl) (rp S8)) rfl (by rw [ne_str, decide_eq_true rfl]; rfl)
  exact ⟨L, MO, P, T, TD, W, a9, S8, (dSeq_nx f1).trans ((dSeq_nx f2).trans ((dSeq_nx f3).trans ((dSeq_nx f4).trans ((dSeq_no (dOr_ff c5a c5b) rfl).trans ((dSeq_no (dOr_ff c6a c6b) rfl).trans ((dSeq_nx f7).trans ((dSeq_nx ((dFor_of hs).trans e8)).trans ((dSeq_no c9 rfl).trans rfl)))))))), m1 + 1 + 4 + 4 + 1, by omega, b8⟩
theorem dAndV_t {a b : DE} {G : Gam} {S1 : Sto} (h : a G S = some (.bl true, S1)) : dAndV a b G S = b G S1 := by
  unfold dAndV
  rw [dTst_of h]; rfl
theorem cz_mul {c k : Nat} : (cz (Txt.mul (sg c) (k : Int))).length = k := by
  show ((Txt.mul ⟨#[c]⟩ (k : Int)).cps.toList).length = k
  rw [PyProof.Rows.mul_one_list, List.length_replicate, Int.toNat_natCast]
theorem intN_rep {n c : Nat} : intN (List.replicate n c) = List.replicate n (D.int (c : Nat)) := by
  induction n with
  | zero => rfl
  | succ n ih => rw [List.replicate_succ, List.replicate_succ, ← ih]; rfl
theorem three_mul : Txt.mul ("3" : Str) 900 = txt (List.replicate 900 3) := by
  have e : ("3" : Str) = ⟨#[51]⟩ := by decide +kernel
  have h : (Txt.mul ("3" : Str) 900).cps.toList = (txt (List.replicate 900 3)).cps.toList := by
    rw [e, PyProof.Rows.mul_one_list]
    show _ = (List.replicate 900 3).map fun d => 48 + d
    rw [List.map_replicate]; rfl
  show (⟨(Txt.mul ("3" : Str) 900).cps⟩ : Str) = ⟨(txt (List.replicate 900 3)).cps⟩
  rw [Array.toList_inj.mp h]
theorem mulS_ok {x : Str} {k : Nat} (hx : (cz x).length ≤ 1) (hk : k ≤ 10000) : opMulS (.str x) (.int (k : Nat)) S = some (.str (Txt.mul x (k : Int)), S) := by
  show (if ((k : Nat) : Int) < 1000000 ∧ -1000000 < ((k : Nat) : Int) ∧ x.length * ((k : Nat) : Int).toNat ≤ 1000000 then some (D.str (Txt.mul x ((k : Nat) : Int)), S) else none) = _
  have : (cz x).length * k ≤ 1 * k := Nat.mul_le_mul_right k hx
  rw [if_pos ⟨by omega, by omega, by show (cz x).length * ((k : Nat) : Int).toNat ≤ 1000000; rw [Int.toNat_natCast]; omega⟩]
theorem last_ok (b : Bag n S) (hn : n ≤ 900000) : ∃ d10 d11 d12 S', dSeq (dAsg (dBin opMulS (dCall opStrI (dCons (dCallF 2 (dCons (dVar 1) (dCons (dCon (.int 6)) dNil)) fn_lawdraw) dNil)) (dCallF 2 (dCons (dVar 1) (dCons (dLst false (dCons (dCon (.int 899)) (dCons (dCon (.int 900)) (dCons (dCon (.int 901)) (dCons (dCon (.int 1100)) dNil))))) dNil)) fn_lawpick)) (dgName 10))
    (dSeq (dAsg (dCallF 2 (dCons (dVar 1) (dCons (dCall opLen (dCons (dVar 10) dNil)) dNil)) fn_lawdraw) (dgName 11))
    (dSeq (dAsg (dBin (opAdd false) (dBin (opAdd false) (dSlS (dVar 10) doNone (doSome (dVar 11))) (dCallF 2 (dCons (dVar 1) (dCons (dLst false (dCons (dCon (.str ("6" : Str))) (dCons (dCon (.str ("x" : Str))) (dCons (dCon (.str ("0" : Str))) dNil)))) dNil)) fn_lawpick)) (dSlS (dVar 10) (doSome (dBin (opAdd false) (dVar 11) (dCon (.int 1)))) doNone)) (dgName 12))
    (dSeq (dRet (dAndV (dCallF 2 (dCons (dVar 10) (dCons (dCon (.bl false)) dNil)) fn_lawisright) (dAndV (dCallF 2 (dCons (dVar 12) (dCons (dCon (.bl true)) dNil)) fn_lawisright) (dBin (opEq false) (dCallF 1 (dCons (dBin (opMulA false) (dTup (dCons (dCon (.int 3)) dNil)) (dCon (.int 900))) dNil) fn_runtext) (dBin opMulS (dCon (.str ("3" : Str))) (dCon (.int 900)))))))
    dSkip))) (fr sc d2 d3 d4 d5 d6 d7 d8 d9 none none none) S = some (.rt (.bl true), fr sc d2 d3 d4 d5 d6 d7 d8 d9 d10 d11 d12, S') := by
  let G (a b c : Option D) : Gam := fr sc d2 d3 d4 d5 d6 d7 d8 d9 a b c
  obtain ⟨a, S1, e1, ha, b1, _, _⟩ := draw_k (size := 6) b (by omega) (by decide) (by decide)
  obtain ⟨k, hk, S2, e2, b2⟩ := pick_nat (L := [899, 900, 901, 1100]) b1 (by omega) (by decide) (by decide)
  have hk1 : 1 ≤ k ∧ k ≤ 1100 := by
    have : ∀ k ∈ ([899, 900, 901, 1100] : List Nat), 1 ≤ k ∧ k ≤ 1100 := by decide
    exact this k hk
  let y : Str := Txt.mul (sg (48 + a)) (k : Int)
  have yl : (cz y).length = k := cz_mul
  let F : Option D := some (.str y)
  have f1 : dAsg (dBin opMulS (dCall opStrI (dCons (dCallF 2 (dCons (dVar 1) (dCons (dCon (.int 6)) dNil)) fn_lawdraw) dNil)) (dCallF 2 (dCons (dVar 1) (dCons (dLst false (dCons (dCon (.int 899)) (dCons (dCon (.int 900)) (dCons (dCon (.int 901)) (dCons (dCon (.int 1100)) dNil))))) dNil)) fn_lawpick)) (dgName 10) (G none none none) S = some (.nx, G F none none, S2) :=
    dAsg_of (dBin_of (x := .str (sg (48 + a))) (y := .int (k : Nat)) (S1 := S1) (S2 := S2) (dCall_of (dOne_of (dCallF_of (ds := [.loc 1, .int 6]) (S1 := S) rfl rfl e1)) (str_dig a (by omega) S1)) (dCallF_of (ds := [.loc 1, .lst (intN [899, 900, 901, 1100])]) (S1 := S1) (dCons_of rfl (dOne_of (dLst_of (ds := intN [899, 900, 901, 1100]) (S1 := S1) rfl (by show 4 ≤ 1000000; decide)))) rfl e2) (mulS_ok (Nat.le_refl 1) (by omega)))
  obtain ⟨s, S3, e3, hs, b3, _, _⟩ := draw_k (size := ((cz y).length : Nat)) b2 (by omega) (by omega) (by omega)
  have el : dCall opLen (dCons (dVar 10) dNil) (G F none none) S2 = some (.int ((cz y).length : Nat), S2) := by
    refine dCall_of (dOne_of (d := .str y) (S1 := S2) rfl) ?_
    show (if y.length ≤ lim then some (D.int (y.length : Nat), S2) else none) = _
    rw [if_pos (show y.length ≤ lim from by show (cz y).length ≤ 1000000; omega)]; rfl
  let P : Option D := some (.int (s : Nat))
  have f2 : dAsg (dCallF 2 (dCons (dVar 1) (dCons (dCall opLen (dCons (dVar 10) dNil)) dNil)) fn_lawdraw) (dgName 11) (G F none none) S2 = some (.nx, G F P none, S3) := dAsg_of (dCallF_of (ds := [.loc 1, .int ((cz y).length : Nat)]) (S1 := S2) (dCons_of rfl (dOne_of el)) rfl e3)
  let fl : List Str := ["6", "x", "0"]
  obtain ⟨r, hr, S4, e4, b4, _, _⟩ := pick_ok (ds := fl.map D.str) (x := .lst (fl.map D.str)) b3 (by omega) (fun _ => rfl) (by show 0 < 3; decide) (by show 3 < 1000000; decide)
  obtain ⟨f, hf, ef⟩ := strs_get hr
  rw [ef] at e4
  have fl1 : (cz f).length ≤ 1 := by
    have : ∀ x ∈ (["6", "x", "0"] : List Str), (cz x).length ≤ 1 := by decide +kernel
    exact this f hf
  let x1 : Str := L2.cutS y none (some (s : Int))
  let x3 : Str := L2.cutS y (some ((s : Int) + 1)) none
  have yl6 : y.length ≤ 1000000 := by show (cz y).length ≤ 1000000; omega
  have v1 : dSlS (dVar 10) doNone (doSome (dVar 11)) (G F P none) S3 = some (.str x1, S3) := by
    show (if y.length ≤ 1000000 then some (D.str (L2.cutS y none (some (s : Int))), S3) else none) = _
    rw [if_pos yl6]
  have v3 : dSlS (dVar 10) (doSome (dBin (opAdd false) (dVar 11) (dCon (.int 1)))) doNone (G F P none) S4 = some (.str x3, S4) := by
    show (if y.length ≤ 1000000 then some (D.str (L2.cutS y (some ((s : Int) + 1)) none), S4) else none) = _
    rw [if_pos yl6]
  have l1 : (cz x1).length ≤ (cz y).length := cut_len
  have l3 : (cz x3).length ≤ (cz y).length := cut_len
  have a1 : opAdd false (.str x1) (.str f) S4 = some (.str (x1 ++ f), S4) := by
    show (if x1.length + f.length ≤ lim then some (D.str (x1 ++ f), S4) else none) = _
    rw [if_pos (show x1.length + f.length ≤ lim by show (cz x1).length + (cz f).length ≤ 1000000; omega)]
  have l12 : (cz (x1 ++ f)).length ≤ (cz y).length + 1 := by rw [cz_add]; omega
  have a2 : opAdd false (.str (x1 ++ f)) (.str x3) S4 = some (.str (x1 ++ f ++ x3), S4) := by
    show (if (x1 ++ f).length + x3.length ≤ lim then some (D.str (x1 ++ f ++ x3), S4) else none) = _
    rw [if_pos (show (x1 ++ f).length + x3.length ≤ lim by show (cz (x1 ++ f)).length + (cz x3).length ≤ 1000000; omega)]
  let o : Str := x1 ++ f ++ x3
  have ol : (cz o).length ≤ 2300 := by show (cz (x1 ++ f ++ x3)).length ≤ 2300; rw [cz_add]; omega
  let O : Option D := some (.str o)
  have f3 : dAsg (dBin (opAdd false) (dBin (opAdd false) (dSlS (dVar 10) doNone (doSome (dVar 11))) (dCallF 2 (dCons (dVar 1) (dCons (dLst false (dCons (dCon (.str ("6" : Str))) (dCons (dCon (.str ("x" : Str))) (dCons (dCon (.str ("0" : Str))) dNil)))) dNil)) fn_lawpick)) (dSlS (dVar 10) (doSome (dBin (opAdd false) (dVar 11) (dCon (.int 1)))) doNone)) (dgName 12) (G F P none) S3 = some (.nx, G F P O, S4) :=
    dAsg_of (dBin_of (dBin_of v1 (dCallF_of (ds := [.loc 1, .lst (fl.map D.str)]) (S1 := S3) (dCons_of rfl (dOne_of (dLst_of (ds := fl.map D.str) (S1 := S3) rfl (by show 3 ≤ 1000000; decide)))) rfl e4) a1) v3 a2)
  obtain ⟨due1, du1⟩ := due_txt (z := y) (by omega)
  obtain ⟨due2, du2⟩ := due_txt (z := o) (by omega)
  obtain ⟨S5, e5, _⟩ := right_ok (S := S4) (b := false) du1
  obtain ⟨S6, e6, _⟩ := right_ok (S := S5) (b := true) du2
  let H : Gam := G F P O
  have c1 : dCallF 2 (dCons (dVar 10) (dCons (dCon (.bl false)) dNil)) fn_lawisright H S4 = some (.bl true, S5) := dCallF_of (ds := [.str y, .bl false]) (S1 := S4) rfl rfl e5
  have c2 : dCallF 2 (dCons (dVar 12) (dCons (dCon (.bl true)) dNil)) fn_lawisright H S5 = some (.bl true, S6) := dCallF_of (ds := [.str o, .bl true]) (S1 := S5) rfl rfl e6
  have rep : intN (List.replicate 900 3) = List.replicate 900 (D.int 3) := intN_rep
  have fla : ∀ n : Nat, (List.replicate n [D.int 3]).flatten = List.replicate n (D.int 3) := fun n => by
    induction n with
    | zero => rfl
    | succ n ih => rw [List.replicate_succ, List.flatten_cons, ih, List.replicate_succ]; rfl
  have m3 : dBin (opMulA false) (dTup (dCons (dCon (.int 3)) dNil)) (dCon (.int 900)) H S6 = some (.tup (intN (List.replicate 900 3)), S6) := by
    refine dBin_of (x := .tup [.int 3]) (y := .int 900) (S1 := S6) (S2 := S6) (dTup_of (ds := [.int 3]) rfl (by show 1 ≤ 1000000; decide)) rfl ?_
    show okTup (List.replicate 900 [D.int 3]).flatten S6 = _
    rw [fla, rep]
    unfold okTup
    rw [if_pos (by rw [List.length_replicate]; show 900 ≤ 1000000; decide)]
  have r3 := runtext_ok (S := S6) (l := List.replicate 900 3) (fun d hd => by rw [List.eq_of_mem_replicate hd]; decide) (by rw [List.length_replicate]; decide)
  have q3 : dBin opMulS (dCon (.str ("3" : Str))) (dCon (.int 900)) H S6 = some (.str (txt (List.replicate 900 3)), S6) := by
    rw [← three_mul]
    exact dBin_of (x := .str ("3" : Str)) (y := .int 900) (S1 := S6) (S2 := S6) rfl rfl (mulS_ok (x := ("3" : Str)) (k := 900) (by decide +kernel) (by decide))
  refine ⟨F, P, O, S6, (dSeq_nx f1).trans ((dSeq_nx f2).trans ((dSeq_nx f3).trans (dSeq_rt (dRet_of ((dAndV_t c1).trans ((dAndV_t c2).trans (dBin_of (dCallF_of (ds := [.tup (intN (List.replicate 900 3))]) (S1 := S6) (dOne_of m3) (by rfl) r3) q3 ?_)))))))⟩
  rw [eq_str, decide_eq_true rfl]
theorem law_data : ∀ ns : List Int, ns.length ≤ 63 → ∃ S', fn_law [.scr (intL ns)] [] = some (.bl true, S') := by
  intro ns hl
  obtain ⟨S0, e0, b0, _⟩ := bag_okC (c := 15820) (by decide) (by decide) ns hl
  let sc : Option D := some (.scr (intL ns))
  let G (d2 d3 d4 d5 d6 d7 d8 d9 : Option D) : Gam := fr sc d2 d3 d4 d5 d6 d7 d8 d9 none none none
  let G0 : Gam := G none none none none none none none none
  have f0 : dAsg (dCallF 1 (dCons (dVar 0) dNil) fn_lawbag) (dgName 1) [sc, none, none, none, none, none, none, none, none, none, none, none, none, none, none] [] = some (.nx, G0, S0) := dAsg_of (dCallF_of (dOne_of rfl) rfl e0)
  have hr := rng1_ok (fs := dCons (dCon (.int 10)) dNil) (k := 10) (G := G0) (S := S0) rfl (by omega)
  obtain ⟨G3, S3, e3, d2, d3, d4, d5, d6, d7, d8, d9, rfl, m, hm, b3⟩ := for_inv (src := fixS (rngD 0 ((10 : Nat) : Int))) (g := dgName 2) (b := turnB) (ds := rngD 0 ((10 : Nat) : Int))
    (fun i G' S' => ∃ d2 d3 d4 d5 d6 d7 d8 d9, G' = G d2 d3 d4 d5 d6 d7 d8 d9 ∧ ∃ m, m ≤ i * 50 ∧ Bag m S') (fun i G' S' h => rfl)
    (fun i G' S' d hd h => by
      obtain ⟨d2, d3, d4, d5, d6, d7, d8, d9, rfl, m, hm, hb⟩ := h
      have hi : i < 10 := by have := (List.getElem?_eq_some_iff.mp hd).1; rwa [rngD_len] at this
      rw [rngD_get hi] at hd
      cases hd
      obtain ⟨z3, z4, z5, z6, z7, z8, z9, S2, e, m2, hm2, hb2⟩ := turn_ok (sc := sc) (t := i) (d3 := d3) (d4 := d4) (d5 := d5) (d6 := d6) (d7 := d7) (d8 := d8) (d9 := d9) (d10 := none) (d11 := none) (d12 := none) hb (by omega)
      exact ⟨_, _, _, _, rfl, e, some (.int (i : Nat)), z3, z4, z5, z6, z7, z8, z9, rfl, m2, by omega, hb2⟩) 10 0 G0 S0 (by rw [rngD_len]) ⟨none, none, none, none, none, none, none, none, rfl, 0, by omega, b0⟩
  rw [rngD_len] at hm
  obtain ⟨a, S5, e5, ha, b5, _, _⟩ := draw_k (size := 6) b3 (by omega) (by decide) (by decide)
  let G4 : Gam := G d2 d3 d4 d5 d6 d7 d8 d9
  have c : dCmpT (opEq false) (dCallF 2 (dCons (dVar 1) (dCons (dCon (.int 6)) dNil)) fn_lawdraw) (dCon (.int 0)) G4 S3 = some (decide ((a : Int) = 0), S5) := dCmpT_of (x := .int (a : Nat)) (y := .int 0) (S1 := S5) (S2 := S5) (dCallF_of (ds := [.loc 1, .int 6]) (S1 := S3) rfl rfl e5) rfl rfl
  by_cases h : (a : Int) = 0
  · rw [decide_eq_true h] at c
    obtain ⟨z10, z11, z12, S6, e6⟩ := last_ok (sc := sc) (d2 := d2) (d3 := d3) (d4 := d4) (d5 := d5) (d6 := d6) (d7 := d7) (d8 := d8) (d9 := d9) b5 (by omega)
    exact ⟨S6, dFn_rt (G' := fr sc d2 d3 d4 d5 d6 d7 d8 d9 z10 z11 z12) ((dSeq_nx f0).trans ((dSeq_nx ((dFor_of hr).trans e3)).trans (dSeq_yes c rfl e6)))⟩
  · rw [decide_eq_false h] at c
    exact ⟨S5, dFn_rt (G' := G4) ((dSeq_nx f0).trans ((dSeq_nx ((dFor_of hr).trans e3)).trans ((dSeq_no c rfl).trans (dRetS_of rfl))))⟩
end
end
end Vk
namespace Vk
open PySem PySem.Spec PyProof.Rows L2 Vw
theorem all_mk {w : World} {K : PySem.W.Frag} {h : Heap} {mg : Str → Option Value} {fa : Addr} (X : K.In h) (G : h.Ns mainGlobals mg) (hfa : mg "law" = some (.ref fa)) {Q : Program} (tabs : ∀ (y : Str) (dd : DefRec) (c P : Addr), (recsOf Q).find? (fun e => e.name == y) = some dd → PySem.W.tabIn K y = some (c, P) → h.get? P = some tab0) (kt : tupsIn K = true) {f1 : Addr} {od1 an1 : Option Addr} {sl1 : Array (Option Value)} {oc1 kV1 dc1 pm1 cd1 ct1 : Value} {f2 : Addr} {od2 an2 : Option Addr} {sl2 : Array (Option Value)} {oc2 kV2 dc2 pm2 cd2 ct2 : Value} {f3 : Addr} {od3 an3 : Option Addr} {sl3 : Array (Option Value)} {oc3 kV3 dc3 pm3 cd3 ct3 : Value} {f4 : Addr} {od4 an4 : Option Addr} {sl4 : Array (Option Value)} {oc4 kV4 dc4 pm4 cd4 ct4 : Value} {f5 : Addr} {od5 an5 : Option Addr} {sl5 : Array (Option Value)} {oc5 kV5 dc5 pm5 cd5 ct5 : Value} {f6 : Addr} {od6 an6 : Option Addr} {sl6 : Array (Option Value)} {oc6 kV6 dc6 pm6 cd6 ct6 : Value} {f7 : Addr} {od7 an7 : Option Addr} {sl7 : Array (Option Value)} {oc7 kV7 dc7 pm7 cd7 ct7 : Value} {f8 : Addr} {od8 an8 : Option Addr} {sl8 : Array (Option Value)} {oc8 kV8 dc8 pm8 cd8 ct8 : Value} {f9 : Addr} {od9 an9 : Option Addr} {sl9 : Array (Option Value)} {oc9 kV9 dc9 pm9 cd9 ct9 : Value} {f10 : Addr} {od10 an10 : Option Addr} {sl10 : Array (Option Value)} {oc10 kV10 dc10 pm10 cd10 ct10 : Value} {f11 : Addr} {od11 an11 : Option Addr} {sl11 : Array (Option Value)} {oc11 kV11 dc11 pm11 cd11 ct11 : Value} {f12 : Addr} {od12 an12 : Option Addr} {sl12 : Array (Option Value)} {oc12 kV12 dc12 pm12 cd12 ct12 : Value}
    (a1 : PySem.W.nsIn K mainGlobals "read_figure" = some (some (.ref f1))) (l1 : K.lookup f1 = some ⟨oc1, od1, .func (PySem.W.fnOf "read_figure" "read_figure" (defArgs s_readfigure) (defBody s_readfigure) (defScope s_readfigure) .none kV1 dc1 pm1 an1 cd1 ct1), sl1⟩) (c1 : PySem.W.codeIn K cd1 "read_figure" = true) (k1 : PySem.W.keepIn K (.ref f1) = true)
    (a2 : PySem.W.nsIn K mainGlobals "run_text" = some (some (.ref f2))) (l2 : K.lookup f2 = some ⟨oc2, od2, .func (PySem.W.fnOf "run_text" "run_text" (defArgs s_runtext) (defBody s_runtext) (defScope s_runtext) .none kV2 dc2 pm2 an2 cd2 ct2), sl2⟩) (c2 : PySem.W.codeIn K cd2 "run_text" = true) (k2 : PySem.W.keepIn K (.ref f2) = true)
    (a3 : PySem.W.nsIn K mainGlobals "read_run" = some (some (.ref f3))) (l3 : K.lookup f3 = some ⟨oc3, od3, .func (PySem.W.fnOf "read_run" "read_run" (defArgs s_readrun) (defBody s_readrun) (defScope s_readrun) .none kV3 dc3 pm3 an3 cd3 ct3), sl3⟩) (c3 : PySem.W.codeIn K cd3 "read_run" = true) (k3 : PySem.W.keepIn K (.ref f3) = true)
    (a4 : PySem.W.nsIn K mainGlobals "_law_bag" = some (some (.ref f4))) (l4 : K.lookup f4 = some ⟨oc4, od4, .func (PySem.W.fnOf "_law_bag" "_law_bag" (defArgs s_lawbag) (defBody s_lawbag) (defScope s_lawbag) .none kV4 dc4 pm4 an4 cd4 ct4), sl4⟩) (c4 : PySem.W.codeIn K cd4 "_law_bag" = true) (k4 : PySem.W.keepIn K (.ref f4) = true)
    (a5 : PySem.W.nsIn K mainGlobals "_law_draw" = some (some (.ref f5))) (l5 : K.lookup f5 = some ⟨oc5, od5, .func (PySem.W.fnOf "_law_draw" "_law_draw" (defArgs s_lawdraw) (defBody s_lawdraw) (defScope s_lawdraw) .none kV5 dc5 pm5 an5 cd5 ct5), sl5⟩) (c5 : PySem.W.codeIn K cd5 "_law_draw" = true) (k5 : PySem.W.keepIn K (.ref f5) = true)
    (a6 : PySem.W.nsIn K mainGlobals "_law_pick" = some (some (.ref f6))) (l6 : K.lookup f6 = some ⟨oc6, od6, .func (PySem.W.fnOf "_law_pick" "_law_pick" (defArgs s_lawpick) (defBody s_lawpick) (defScope s_lawpick) .none kV6 dc6 pm6 an6 cd6 ct6), sl6⟩) (c6 : PySem.W.codeIn K cd6 "_law_pick" = true) (k6 : PySem.W.keepIn K (.ref f6) = true)
    (a7 : PySem.W.nsIn K mainGlobals "_law_read" = some (some (.ref f7))) (l7 : K.lookup f7 = some ⟨oc7, od7, .func (PySem.W.fnOf "_law_read" "_law_read" (defArgs s_lawread) (defBody s_lawread) (defScope s_lawread) .none kV7 dc7 pm7 an7 cd7 ct7), sl7⟩) (c7 : PySem.W.codeIn K cd7 "_law_read" = true) (k7 : PySem.W.keepIn K (.ref f7) = true)
    (a8 : PySem.W.nsIn K mainGlobals "_law_heard" = some (some (.ref f8))) (l8 : K.lookup f8 = some ⟨oc8, od8, .func (PySem.W.fnOf "_law_heard" "_law_heard" (defArgs s_lawheard) (defBody s_lawheard) (defScope s_lawheard) .none kV8 dc8 pm8 an8 cd8 ct8), sl8⟩) (c8 : PySem.W.codeIn K cd8 "_law_heard" = true) (k8 : PySem.W.keepIn K (.ref f8) = true)
    (a9 : PySem.W.nsIn K mainGlobals "_law_is_right" = some (some (.ref f9))) (l9 : K.lookup f9 = some ⟨oc9, od9, .func (PySem.W.fnOf "_law_is_right" "_law_is_right" (defArgs s_lawisright) (defBody s_lawisright) (defScope s_lawisright) .none kV9 dc9 pm9 an9 cd9 ct9), sl9⟩) (c9 : PySem.W.codeIn K cd9 "_law_is_right" = true) (k9 : PySem.W.keepIn K (.ref f9) = true)
    (a10 : PySem.W.nsIn K mainGlobals "_law_printable" = some (some (.ref f10))) (l10 : K.lookup f10 = some ⟨oc10, od10, .func (PySem.W.fnOf "_law_printable" "_law_printable" (defArgs s_lawprintable) (defBody s_lawprintable) (defScope s_lawprintable) .none kV10 dc10 pm10 an10 cd10 ct10), sl10⟩) (c10 : PySem.W.codeIn K cd10 "_law_printable" = true) (k10 : PySem.W.keepIn K (.ref f10) = true)
    (a11 : PySem.W.nsIn K mainGlobals "_law_bent" = some (some (.ref f11))) (l11 : K.lookup f11 = some ⟨oc11, od11, .func (PySem.W.fnOf "_law_bent" "_law_bent" (defArgs s_lawbent) (defBody s_lawbent) (defScope s_lawbent) .none kV11 dc11 pm11 an11 cd11 ct11), sl11⟩) (c11 : PySem.W.codeIn K cd11 "_law_bent" = true) (k11 : PySem.W.keepIn K (.ref f11) = true)
    (a12 : PySem.W.nsIn K mainGlobals "law" = some (some (.ref f12))) (l12 : K.lookup f12 = some ⟨oc12, od12, .func (PySem.W.fnOf "law" "law" (defArgs s_law) (defBody s_law) (defScope s_law) .none kV12 dc12 pm12 an12 cd12 ct12), sl12⟩) (c12 : PySem.W.codeIn K cd12 "law" = true) (k12 : PySem.W.keepIn K (.ref f12) = true) (z_abs : PySem.W.nsIn K mainGlobals "abs" = some none) (z_enumerate : PySem.W.nsIn K mainGlobals "enumerate" = some none) (z_int : PySem.W.nsIn K mainGlobals "int" = some none) (z_isinstance : PySem.W.nsIn K mainGlobals "isinstance" = some none) (z_len : PySem.W.nsIn K mainGlobals "len" = some none) (z_range : PySem.W.nsIn K mainGlobals "range" = some none) (z_repr : PySem.W.nsIn K mainGlobals "repr" = some none) (z_str : PySem.W.nsIn K mainGlobals "str" = some none) (z_tuple : PySem.W.nsIn K mainGlobals "tuple" = some none)
    {gP_FIGURES : Addr} {go_FIGURES : Option Addr} {gi_FIGURES : Array Value} {gn_FIGURES : Nat} {gl_FIGURES : Array (Option Value)} {gv_FIGURES : List V} (g_FIGURES : PySem.W.nsIn K mainGlobals "FIGURES" = some (some (.ref gP_FIGURES))) (gk_FIGURES : K.lookup gP_FIGURES = some ⟨.type "tuple", go_FIGURES, .seq gi_FIGURES gn_FIGURES, gl_FIGURES⟩) (gs_FIGURES : gi_FIGURES.size ≤ sizeLine) (gf_FIGURES : flatVs gi_FIGURES.toList = some (gv_FIGURES, [.str ("0" : Str), .str ("1" : Str), .str ("2" : Str), .str ("3" : Str), .str ("4" : Str), .str ("5" : Str)]))
    {gt_MAX_MOVES : Tok} (g_MAX_MOVES : PySem.W.nsIn K mainGlobals "MAX_MOVES" = some (some (.int 900 gt_MAX_MOVES))) {C_BadText : Addr} {C_BowError : Addr}
    (aC_BadText : PySem.W.nsIn K mainGlobals "BadText" = some (some (.ref C_BadText)))
    (aC_BowError : PySem.W.nsIn K mainGlobals "BowError" = some (some (.ref C_BowError))) {fI_BadText N_BadText : Addr} {nm_BadText qn_BadText : Str} {bs_BadText sub_BadText : List Value} {sn_BadText : List Str} {ab_BadText : Bool} {col_BadText : Option Bool} {dd_BadText odI_BadText anI_BadText : Option Addr} {k0_BadText k1_BadText k2_BadText k3_BadText k5_BadText : Option Value} {ocI_BadText kVI_BadText dcI_BadText pmI_BadText cdI_BadText ctI_BadText : Value} {slI_BadText : Array (Option Value)}
    (xL_BadText : K.lookup C_BadText = some (excClassObj nm_BadText qn_BadText C_BadText N_BadText bs_BadText [.ref C_BowError, .type "ValueError", .type "Exception", .type "BaseException", .type "object"] true sn_BadText sub_BadText ab_BadText col_BadText dd_BadText k0_BadText k1_BadText k2_BadText k3_BadText k5_BadText "ValueError.__new__")) (sa_BadText : PySem.W.findIn K (.ref C_BadText) "__setattr__" = some (some (.builtin "object.__setattr__"))) (eC_BadText : PySem.W.subIn K (.ref C_BadText) (.type "BaseException") = some true) (tC_BadText : PySem.W.typeIn K (.ref C_BadText) = some (.type "type")) (kC_BadText : PySem.W.keepIn K (.ref C_BadText) = true) (iC_BadText : PySem.W.findIn K (.ref C_BadText) "__init__" = some (some (.ref fI_BadText))) (tI_BadText : PySem.W.typeIn K (.ref fI_BadText) = some (.type "function"))
    (lI_BadText : K.lookup fI_BadText = some ⟨ocI_BadText, odI_BadText, .func (PySem.W.fnOf "__init__" "BadText.__init__" (defArgs sI_BadText) (defBody sI_BadText) (defScope sI_BadText) .none kVI_BadText dcI_BadText pmI_BadText anI_BadText cdI_BadText ctI_BadText), slI_BadText⟩) (cI_BadText : PySem.W.codeIn K cdI_BadText "BadText.__init__" = true) (kI_BadText : PySem.W.keepIn K (.ref fI_BadText) = true)
    (fa_BadText : PySem.W.findIn K (.ref C_BadText) "__getattribute__" = some (some (.builtin "BaseException.__getattribute__"))) (fg_BadText : PySem.W.findIn K (.ref C_BadText) "__getattr__" = some none) (fe_BadText : PySem.W.subIn K (.ref C_BadText) (.type "BaseException") = some true) (fh_BadText : PySem.W.hasDictIn K C_BadText = true)
    (no_BadText_place : PySem.W.findIn K (.ref C_BadText) "place" = some none)
    (ya_BadText : PySem.W.findIn K (.ref C_BadText) "__getattribute__" = some (some (.builtin "BaseException.__getattribute__"))) (yg_BadText : PySem.W.findIn K (.ref C_BadText) "__getattr__" = some none) (ye_BadText : PySem.W.subIn K (.ref C_BadText) (.type "BaseException") = some true) (yh_BadText : PySem.W.hasDictIn K C_BadText = true) (yc_BadText : PySem.W.findIn K (.ref C_BadText) "__class__" = some (some (.builtin "object.__class__"))) (yn_BadText : PySem.W.specialIn K (.builtin "object.__class__") "__get__" = some (some (.builtin "getset_descriptor.__get__"))) (yt_BadText : PySem.W.takesIn K (.builtin "object.__class__") = some true) (ym_BadText : PySem.W.mroIn K C_BadText (.type "object") = some true)
    (ki_BadText_BowError : PySem.W.kitOne K (.ref C_BadText) (.ref C_BowError) = some true)
    (ex_BadText_BadText : PySem.W.exmOne K (.ref C_BadText) (.ref C_BadText) = some true)
    (rb_BowError : PySem.W.readsIn K C_BowError (.type "type") = true) (gb_BowError : PySem.W.specialIn K (.ref C_BowError) "__getattribute__" = some (some (.builtin "type.__getattribute__"))) (vb_BowError : PySem.W.findCls K (.ref C_BowError) (.type "type") "__init__" = some (.val (.builtin "ValueError.__init__"))) :
    LawG PySem.Challenge.rw_bowstands_k20_whole_texts_of_runs w K 6 63 "script" mg fa h := by
  have e := hfa.symm.trans (PySem.W.mg_of X G a12)
  cases e
  have F1 := fun_mk (st := s_readfigure) l1 c1 k1
  have b1 := F1.binds (ps := ["text"]) fun _ _ _ _ _ _ us hl => match us, hl with | [_], _ => rfl
  have F2 := fun_mk (st := s_runtext) l2 c2 k2
  have b2 := F2.binds (ps := ["run"]) fun _ _ _ _ _ _ us hl => match us, hl with | [_], _ => rfl
  have F3 := fun_mk (st := s_readrun) l3 c3 k3
  have b3 := F3.binds (ps := ["value"]) fun _ _ _ _ _ _ us hl => match us, hl with | [_], _ => rfl
  have F4 := fun_mk (st := s_lawbag) l4 c4 k4
  have b4 := F4.binds (ps := ["script"]) fun _ _ _ _ _ _ us hl => match us, hl with | [_], _ => rfl
  have F5 := fun_mk (st := s_lawdraw) l5 c5 k5
  have b5 := F5.binds (ps := ["bag", "size"]) fun _ _ _ _ _ _ us hl => match us, hl with | [_, _], _ => rfl
  have F6 := fun_mk (st := s_lawpick) l6 c6 k6
  have b6 := F6.binds (ps := ["bag", "some"]) fun _ _ _ _ _ _ us hl => match us, hl with | [_, _], _ => rfl
  have F7 := fun_mk (st := s_lawread) l7 c7 k7
  have b7 := F7.binds (ps := ["thing"]) fun _ _ _ _ _ _ us hl => match us, hl with | [_], _ => rfl
  have F8 := fun_mk (st := s_lawheard) l8 c8 k8
  have b8 := F8.binds (ps := ["thing", "is_named"]) fun _ _ _ _ _ _ us hl => match us, hl with | [_, _], _ => rfl
  have F9 := fun_mk (st := s_lawisright) l9 c9 k9
  have b9 := F9.binds (ps := ["thing", "is_named"]) fun _ _ _ _ _ _ us hl => match us, hl with | [_, _], _ => rfl
  have F10 := fun_mk (st := s_lawprintable) l10 c10 k10
  have b10 := F10.binds (ps := []) fun _ _ _ _ _ _ us hl => match us, hl with | [], _ => rfl
  have F11 := fun_mk (st := s_lawbent) l11 c11 k11
  have b11 := F11.binds (ps := ["bag", "text"]) fun _ _ _ _ _ _ us hl => match us, hl with | [_, _], _ => rfl
  have F12 := fun_mk (st := s_law) l12 c12 k12
  have b12 := F12.binds (ps := ["script"]) fun _ _ _ _ _ _ us hl => match us, hl with | [_], _ => rfl
  have t_BadText : ExT K mg "BadText" "BowError" C_BadText C_BowError fI_BadText := ⟨⟨⟨nm_BadText, qn_BadText, N_BadText, bs_BadText, _, sn_BadText, sub_BadText, ab_BadText, col_BadText, dd_BadText, k0_BadText, k1_BadText, k2_BadText, k3_BadText, k5_BadText, xL_BadText, rfl⟩, sa_BadText, eC_BadText, tC_BadText, kC_BadText⟩, PySem.W.mg_of X G aC_BadText, PySem.W.mg_of X G aC_BowError, ⟨rb_BowError, gb_BowError⟩, vb_BowError, iC_BadText, tI_BadText, by decide⟩
  have fi_BadText := fun_mk (st := sI_BadText) lI_BadText cI_BadText kI_BadText
  have b_BadText := fi_BadText.binds (ps := ["self", "place"]) fun _ _ _ _ _ _ us hl => match us, hl with | [_, _], _ => rfl
  have xc_BadText : ExcC K C_BadText := ⟨ya_BadText, yg_BadText, ye_BadText, yh_BadText, yc_BadText, yn_BadText, yt_BadText, ym_BadText⟩
  have xf_BadText : XfC K C_BadText := ⟨fa_BadText, fg_BadText, fe_BadText, fh_BadText⟩
  refine ⟨kt, PySem.W.fnOf "law" "law" (defArgs s_law) (defBody s_law) (defScope s_law) .none kV12 dc12 pm12 an12 cd12 ct12, [], fn_law, ?_, fun s v => .of_eq rfl, law_data, fun base KB GB TB => ?_⟩
  · intro p hp
    cases hp
  have i_BadText : FnOk (PySem.Challenge.pw_bowstands_k20_whole_texts_of_runs) w K mg base (L2.CX (PySem.Challenge.pw_bowstands_k20_whole_texts_of_runs) w) 1 fI_BadText _ ["self", "place"] (spI1 C_BadText "place") := init_BadText t_BadText no_BadText_place fi_BadText
  have C_readfigure : Cal (PySem.Challenge.pw_bowstands_k20_whole_texts_of_runs) w K mg base [] 1 "read_figure" s_readfigure ["text"] fn_readfigure := cal_of (N := ["text"]) (b := d_readfigure) F1 (PySem.W.mg_of X G a1) sc_readfigure b1 (fun cdv A outer s H E hcd hA hR => ok_readfigure (PySem.W.mg_of X G g_FIGURES) gk_FIGURES gs_FIGURES gf_FIGURES cdv A outer s H E hA hR)
  have C_runtext : Cal (PySem.Challenge.pw_bowstands_k20_whole_texts_of_runs) w K mg base [] 1 "run_text" s_runtext ["run"] fn_runtext := cal_of (N := ["run", "hand"]) (b := d_runtext) F2 (PySem.W.mg_of X G a2) sc_runtext b2 (fun cdv A outer s H E hcd hA hR => ok_runtext (PySem.W.mg_none_of X G z_str) cdv A outer s H E hA hR)
  have CX_readrun : CalX (PySem.Challenge.pw_bowstands_k20_whole_texts_of_runs) w K mg base [] 3 "read_run" s_readrun ["value"] fn_readrun xfn_readrun := calX_of (N := ["value", "run", "place", "sign", "hand"]) (b := d_readrun) F3 (PySem.W.mg_of X G a3) sc_readrun b3 (fun cdv A outer s H E hcd hA hR => ok_readrun (PySem.W.mg_none_of X G z_enumerate) (PySem.W.mg_none_of X G z_isinstance) (PySem.W.mg_none_of X G z_str) (PySem.W.mg_none_of X G z_tuple) (PySem.W.mg_of X G g_MAX_MOVES) C_readfigure t_BadText i_BadText b_BadText cdv A outer s H E hA hR)
  have C_readrun := CX_readrun.ok
  have C_lawbag : Cal (PySem.Challenge.pw_bowstands_k20_whole_texts_of_runs) w K mg base [] 1 "_law_bag" s_lawbag ["script"] fn_lawbag := cal_of (N := ["script", "cells", "stirred", "cell"]) (b := d_lawbag) F4 (PySem.W.mg_of X G a4) sc_lawbag b4 (fun cdv A outer s H E hcd hA hR => ok_lawbag (PySem.W.mg_none_of X G z_abs) (PySem.W.mg_none_of X G z_int) (PySem.W.mg_none_of X G z_len) cdv A outer s H E hA hR)
  have C_lawdraw : Cal (PySem.Challenge.pw_bowstands_k20_whole_texts_of_runs) w K mg base [] 1 "_law_draw" s_lawdraw ["bag", "size"] fn_lawdraw := cal_of (N := ["bag", "size", "far", "whole", "turn", "mixed"]) (b := d_lawdraw) F5 (PySem.W.mg_of X G a5) sc_lawdraw b5 (fun cdv A outer s H E hcd hA hR => ok_lawdraw (PySem.W.mg_none_of X G z_int) cdv A outer s H E hA hR)
  have C_lawpick : Cal (PySem.Challenge.pw_bowstands_k20_whole_texts_of_runs) w K mg base [] 2 "_law_pick" s_lawpick ["bag", "some"] fn_lawpick := cal_of (N := ["bag", "some"]) (b := d_lawpick) F6 (PySem.W.mg_of X G a6) sc_lawpick b6 (fun cdv A outer s H E hcd hA hR => ok_lawpick (PySem.W.mg_none_of X G z_len) C_lawdraw cdv A outer s H E hA hR)
  have C_lawread : Cal (PySem.Challenge.pw_bowstands_k20_whole_texts_of_runs) w K mg base [] 1 "_law_read" s_lawread ["thing"] fn_lawread := cal_of (N := ["thing", "wrong", "k", "sign"]) (b := d_lawread) F7 (PySem.W.mg_of X G a7) sc_lawread b7 (fun cdv A outer s H E hcd hA hR => ok_lawread (PySem.W.mg_none_of X G z_enumerate) (PySem.W.mg_none_of X G z_int) (PySem.W.mg_none_of X G z_isinstance) (PySem.W.mg_none_of X G z_str) (PySem.W.mg_none_of X G z_tuple) cdv A outer s H E hA hR)
  have C_lawheard : Cal (PySem.Challenge.pw_bowstands_k20_whole_texts_of_runs) w K mg base [] 4 "_law_heard" s_lawheard ["thing", "is_named"] fn_lawheard := cal_of (N := ["thing", "is_named", "slip"]) (b := d_lawheard) F8 (PySem.W.mg_of X G a8) sc_lawheard b8 (fun cdv A outer s H E hcd hA hR => ok_lawheard (PySem.W.mg_none_of X G z_isinstance) C_readrun CX_readrun (PySem.W.mg_of X G aC_BadText) ex_BadText_BadText (PySem.W.mg_of X G aC_BowError) xc_BadText ki_BadText_BowError xf_BadText no_BadText_place cdv A outer s H E hA hR)
  have C_lawisright : Cal (PySem.Challenge.pw_bowstands_k20_whole_texts_of_runs) w K mg base [] 5 "_law_is_right" s_lawisright ["thing", "is_named"] fn_lawisright := cal_of (N := ["thing", "is_named", "due"]) (b := d_lawisright) F9 (PySem.W.mg_of X G a9) sc_lawisright b9 (fun cdv A outer s H E hcd hA hR => ok_lawisright (PySem.W.mg_none_of X G z_repr) C_lawheard C_lawread cdv A outer s H E hA hR)
  have C_lawprintable : Cal (PySem.Challenge.pw_bowstands_k20_whole_texts_of_runs) w K mg base [] 1 "_law_printable" s_lawprintable [] fn_lawprintable := cal_of (N := []) (b := d_lawprintable) F10 (PySem.W.mg_of X G a10) sc_lawprintable b10 (fun cdv A outer s H E hcd hA hR => ok_lawprintable cdv A outer s H E hA hR)
  have C_lawbent : Cal (PySem.Challenge.pw_bowstands_k20_whole_texts_of_runs) w K mg base [] 3 "_law_bent" s_lawbent ["bag", "text"] fn_lawbent := cal_of (N := ["bag", "text", "way", "spot", "fresh"]) (b := d_lawbent) F11 (PySem.W.mg_of X G a11) sc_lawbent b11 (fun cdv A outer s H E hcd hA hR => ok_lawbent (PySem.W.mg_none_of X G z_int) (PySem.W.mg_none_of X G z_len) C_lawpick C_lawprintable C_lawdraw cdv A outer s H E hA hR)
  exact fnG_D F12 sc_law (fun cdv A outer s H E hcd hA hR => ok_law (PySem.W.mg_none_of X G z_len) (PySem.W.mg_none_of X G z_range) (PySem.W.mg_none_of X G z_repr) (PySem.W.mg_none_of X G z_str) (PySem.W.mg_none_of X G z_tuple) C_lawdraw C_lawisright C_runtext C_lawpick C_lawbent C_readrun C_lawbag cdv A outer s H E hA hR)
end Vk
open PySem PySem.W PyProof.Rows
set_option maxHeartbeats 0 in
theorem PySem.Challenge.cw_bowstands_k20_whole_texts_of_runs_holds : PySem.Challenge.rw_bowstands_k20_whole_texts_of_runs.Holds := by
  w_on; o_law; k_head; (case hw => w_witness2)
  k_fill
  refine Vw.walk_ofG (l := PySem.Challenge.rw_bowstands_k20_whole_texts_of_runs) (n := 63) (k := 6) (x := "script") rfl (by decide) rfl ⟨rfl, by decide, by decide⟩ (fun w h Y => PySem.W.kIn_of Y) ?F
  case F =>
    intro w mg fa h Y KX G hmg tabs
    refine' Vk.all_mk KX G hmg tabs ?kt ?a1 ?l1 ?c1 ?k1 ?a2 ?l2 ?c2 ?k2 ?a3 ?l3 ?c3 ?k3 ?a4 ?l4 ?c4 ?k4 ?a5 ?l5 ?c5 ?k5 ?a6 ?l6 ?c6 ?k6 ?a7 ?l7 ?c7 ?k7 ?a8 ?l8 ?c8 ?k8 ?a9 ?l9 ?c9 ?k9 ?a10 ?l10 ?c10 ?k10 ?a11 ?l11 ?c11 ?k11 ?a12 ?l12 ?c12 ?k12 ?z_abs ?z_enumerate ?z_int ?z_isinstance ?z_len ?z_range ?z_repr ?z_str ?z_tuple ?g_FIGURES ?gk_FIGURES ?gs_FIGURES ?gf_FIGURES ?g_MAX_MOVES ?aC_BadText ?aC_BowError ?xL_BadText ?sa_BadText ?eC_BadText ?tC_BadText ?kC_BadText ?iC_BadText ?tI_BadText ?lI_BadText ?cI_BadText ?kI_BadText ?fa_BadText ?fg_BadText ?fe_BadText ?fh_BadText ?no_BadText_place ?ya_BadText ?yg_BadText ?ye_BadText ?yh_BadText ?yc_BadText ?yn_BadText ?yt_BadText ?ym_BadText ?ki_BadText_BowError ?ex_BadText_BadText ?rb_BowError ?gb_BowError ?vb_BowError
    (case kt => first | k_is | kernel_rfl); (case a1 => k_is); (case l1 => k_is); (case c1 => k_is); (case k1 => k_is); (case a2 => k_is); (case l2 => k_is); (case c2 => k_is); (case k2 => k_is); (case a3 => k_is); (case l3 => k_is); (case c3 => k_is); (case k3 => k_is); (case a4 => k_is); (case l4 => k_is); (case c4 => k_is); (case k4 => k_is); (case a5 => k_is); (case l5 => k_is); (case c5 => k_is); (case k5 => k_is); (case a6 => k_is); (case l6 => k_is); (case c6 => k_is); (case k6 => k_is); (case a7 => k_is); (case l7 => k_is); (case c7 => k_is); (case k7 => k_is); (case a8 => k_is); (case l8 => k_is); (case c8 => k_is); (case k8 => k_is); (case a9 => k_is); (case l9 => k_is); (case c9 => k_is); (case k9 => k_is); (case a10 => k_is); (case l10 => k_is); (case c10 => k_is); (case k10 => k_is); (case a11 => k_is); (case l11 => k_is); (case c11 => k_is); (case k11 => k_is); (case a12 => k_is); (case l12 => k_is); (case c12 => k_is); (case k12 => k_is); (case z_abs => k_is); (case z_enumerate => k_is); (case z_int => k_is); (case z_isinstance => k_is); (case z_len => k_is); (case z_range => k_is); (case z_repr => k_is); (case z_str => k_is); (case z_tuple => k_is); (case g_FIGURES => k_is); (case gk_FIGURES => k_is); (case gs_FIGURES => first | rfl | decide +kernel | kernel_rfl); (case gf_FIGURES => first | rfl | decide +kernel | kernel_rfl); (case g_MAX_MOVES => k_is); (case aC_BadText => first | k_is | kernel_rfl); (case aC_BowError => first | k_is | kernel_rfl); (case xL_BadText => first | k_is | kernel_rfl); (case sa_BadText => first | k_is | kernel_rfl); (case eC_BadText => first | k_is | kernel_rfl); (case tC_BadText => first | k_is | kernel_rfl); (case kC_BadText => first | k_is | kernel_rfl); (case iC_BadText => first | k_is | kernel_rfl); (case tI_BadText => first | k_is | kernel_rfl); (case lI_BadText => first | k_is | kernel_rfl); (case cI_BadText => first | k_is | kernel_rfl); (case kI_BadText => first | k_is | kernel_rfl); (case fa_BadText => first | k_is | kernel_rfl); (case fg_BadText => first | k_is | kernel_rfl); (case fe_BadText => first | k_is | kernel_rfl); (case fh_BadText => first | k_is | kernel_rfl); (case no_BadText_place => first | k_is | kernel_rfl); (case ya_BadText => first | k_is | kernel_rfl); (case yg_BadText => first | k_is | kernel_rfl); (case ye_BadText => first | k_is | kernel_rfl); (case yh_BadText => first | k_is | kernel_rfl); (case yc_BadText => first | k_is | kernel_rfl); (case yn_BadText => first | k_is | kernel_rfl); (case yt_BadText => first | k_is | kernel_rfl); (case ym_BadText => first | k_is | kernel_rfl); (case ki_BadText_BowError => first | rfl | k_is | kernel_rfl); (case ex_BadText_BadText => first | rfl | k_is | kernel_rfl); (case rb_BowError => first | k_is | kernel_rfl); (case gb_BowError => first | k_is | kernel_rfl); (case vb_BowError => first | k_is | kernel_rfl)
