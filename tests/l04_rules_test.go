package tests

import (
	"slices"
	"strings"
	"testing"

	"loop.example/g03221/impl"
)

func sampleTexts() map[string]string {
	const merging = "fb: FB -> F; mz: MZ -> M; bs: m:BS -> S; bd: m:BD -> D; zs: w:ZS -> S; zd: w:ZD -> D; fs: FS -> B; fd: FD -> Z; ms: MS -> B; md: MD -> Z"
	return map[string]string{
		"generation": "fb: FB -> F; fz: FZ -> M; mb: MB -> F; mz: MZ -> M; bs: BS -> S; bd: BD -> D; zs: ZS -> S; zd: ZD -> D; fs: FS -> B; fd: FD -> Z; ms: MS -> B; md: MD -> Z",
		"merging":    merging,
		"skewing":    merging + "; mbs: MBS -> MB; mbd: MBD -> M",
	}
}

func TestP13RuleConstants(t *testing.T) {
	expect(t, []int{impl.MaxRules, impl.MaxPart, impl.MaxReached}, []int{12, 4, 500}, "limits")
	expect(t, []int{impl.PlaceAny, impl.PlaceFirst, impl.PlaceLast}, []int{0, 1, 2}, "places")
}

func TestP13SampleRules(t *testing.T) {
	for name, texts := range sampleTexts() {
		got := []string{}
		for _, r := range impl.SampleRules(name) {
			got = append(got, wantRuleText(r))
		}
		expect(t, strings.Join(got, "; "), texts, "SampleRules %s", name)
		expect(t, impl.AreRules(impl.SampleRules(name)), true, "AreRules %s", name)
	}
	for _, name := range []string{"", "Merging", "merging ", "generations", "merg", "skewing\x00", "\xff"} {
		expect(t, len(impl.SampleRules(name)), 0, "SampleRules %q", name)
	}
}

func TestP13IsRule(t *testing.T) {
	for _, text := range []string{
		"a: F FB", "a: . HW", "a: . WH", "a: . m:FS", "a: . w:MD", "a: . m:eB", "a: . w:Z", "a: F H", "a: F HB", "a: Z W", "a: H w:MS", "a: W m:FD",
		"a: B eB", "a: eB yB", "a: FFFB FFFeB", "a: FF FB", "a: FB MB", "a: FS SF", "a: SSS FFFF", "a: FFFF MFFF", "a: HW w:SFD", "a: F FWHB", "a: FWHB SWHB", "a: M WHW",
	} {
		parts := strings.Fields(text)
		from, to := looseType(parts[2]), looseType(parts[1])
		for place := range 3 {
			r := impl.Rule{Name: "a", Sex: from.Ego, Place: place, From: from.Steps, To: to.Steps}
			expect(t, wantRule(r), true, "the test's own rules: %s", text)
			expect(t, impl.IsRule(r), true, "IsRule %s at %d", text, place)
		}
	}
	for label, r := range notRules(t) {
		expect(t, wantRule(r), false, "the test's own rules: %s", label)
		expect(t, impl.IsRule(r), false, "IsRule: %s", label)
		expect(t, impl.AreRules([]impl.Rule{r}), false, "AreRules: %s", label)
	}
}

// TestP13IsRuleOfAllShortParts tries every Sex with all parts of at most two steps, also such as are no types.
func TestP13IsRuleOfAllShortParts(t *testing.T) {
	steps := append(allSteps(), impl.Step{}, impl.Step{Kind: 9}, impl.Step{Kind: 1, Age: 1}, impl.Step{Kind: 3, Age: 3})
	parts := [][]impl.Step{nil}
	for _, s := range steps {
		parts = append(parts, []impl.Step{s})
		for _, u := range steps {
			parts = append(parts, []impl.Step{s, u})
		}
	}
	valid := 0
	for _, from := range parts {
		for _, to := range parts {
			for sex := range 3 {
				r := impl.Rule{Name: "a", Sex: sex, From: from, To: to}
				want := wantRule(r)
				if impl.IsRule(r) != want {
					t.Fatalf("IsRule %v: want %v", r, want)
				}
				if want {
					valid++
				}
			}
		}
	}
	if valid < 10000 {
		t.Errorf("%d rules are valid", valid)
	}
}

func TestP13IsRuleByChance(t *testing.T) {
	r := newChance(65)
	valid := 0
	for range 20000 {
		x := impl.Rule{Name: chanceName(r, r.IntN(400)), Sex: r.IntN(3), Place: r.IntN(3)}
		x.From = chanceSteps(r, r.IntN(6))
		x.To = slices.Clone(x.From[:r.IntN(len(x.From)+1)])
		if len(x.To) > 0 {
			x.To[r.IntN(len(x.To))] = chanceSteps(r, 1)[0]
		}
		expect(t, impl.IsRule(x), wantRule(x), "IsRule %v", x)
		expect(t, impl.FormatRule(x), wantRuleText(x), "FormatRule %v", x)
		if wantRule(x) {
			valid++
		}
	}
	if valid < 2000 || valid > 18000 {
		t.Errorf("%d of the rules are valid", valid)
	}
}

// namedRules returns as many valid rules with different names.
func namedRules(t *testing.T, n int) []impl.Rule {
	t.Helper()
	list := []impl.Rule{}
	for i := range n {
		list = append(list, rule(t, string(rune('a'+i))+": FB -> F"))
	}
	return list
}

func TestP13AreRules(t *testing.T) {
	expect(t, impl.AreRules(nil) && impl.AreRules([]impl.Rule{}), true, "no rules")
	for n := range 16 {
		rules := namedRules(t, n)
		expect(t, impl.AreRules(rules), n <= 12, "AreRules of %d", n)
		if n < 2 || n > 12 {
			continue
		}
		rules[n-1].Name = rules[0].Name
		expect(t, impl.AreRules(rules), false, "AreRules of %d, the first name twice", n)
		rules[n-1].Name = rules[n-2].Name
		expect(t, impl.AreRules(rules), n == 2 && rules[0].Name != rules[1].Name, "AreRules of %d, another name twice", n)
		rules[n-1].Name = "Z"
		expect(t, impl.AreRules(rules), false, "AreRules of %d, the last one is not valid", n)
	}
	expect(t, impl.AreRules(slices.Repeat(namedRules(t, 1), 100000)), false, "very many rules")
}

func TestP13FitsAt(t *testing.T) {
	cases := []struct {
		rule, kin string
		want      []int
	}{
		{"a: FB -> F", "m:FBFB", []int{0, 2}}, {"a: ^FB -> F", "m:FBFB", []int{0}}, {"a: FB$ -> F", "m:FBFB", []int{2}}, {"a: FB -> F", "FBFBF", []int{0, 2}}, {"a: FB$ -> F", "FBFBF", nil}, {"a: FB$ -> F", "FB", []int{0}}, {"a: ^FB -> F", "FB", []int{0}}, {"a: ^FB -> F", "MFB", nil},
		{"a: B -> F", "eByBBZ", []int{0, 1, 2}}, {"a: eB -> F", "eByBBZ", []int{0}}, {"a: yB -> F", "eByBBZ", []int{1}}, {"a: BB -> F", "eByBBZ", []int{0, 1}}, {"a: yBB -> F", "eByBBZ", []int{1}}, {"a: eByB -> F", "eByBBZ", []int{0}}, {"a: Z -> M", "eZB", []int{0}},
		{"a: m:B -> .", "m:BBZB", []int{0, 1}}, {"a: w:B -> F", "m:BBZB", []int{3}}, {"a: m:B -> .", "BBZB", []int{1}}, {"a: w:B -> F", "BBZB", []int{3}}, {"a: w:B -> F", "w:BBZB", []int{0, 3}}, {"a: B -> F", "BBZB", []int{0, 1, 3}},
		{"a: w:H -> S", "H", []int{0}}, {"a: w:H -> S", "w:H", []int{0}}, {"a: H -> S", "H", []int{0}}, {"a: m:W -> D", "W", []int{0}}, {"a: w:^HB -> S", "HBB", []int{0}}, {"a: m:WZ -> D", "WZHWZ", []int{0, 3}}, {"a: w:Z -> .", "WZHWZ", []int{1, 4}},
		{"a: FFFF -> F", "FFFFFFFF", []int{0, 1, 2, 3, 4}}, {"a: FFFF -> F", "FFF", nil}, {"a: FFFF$ -> F", "FFFFFFFF", []int{4}}, {"a: m:F -> .", "FFFFFFFF", []int{1, 2, 3, 4, 5, 6, 7}},
		{"a: FB -> F", ".", nil}, {"a: m:B -> .", "m:.", nil}, {"a: FB -> F", "m:F", nil}, {"a: FB -> F", "BF", nil}, {"a: SS -> S", "DSDS", nil},
	}
	for _, c := range cases {
		r, k := rule(t, c.rule), kinType(t, c.kin)
		got := []int{}
		for i := -3; i < 12; i++ {
			fits := impl.FitsAt(r, k, i)
			if fits {
				got = append(got, i)
			}
			u, ok := impl.ReplaceAt(r, k, i)
			expect(t, ok, fits, "ReplaceAt %d of %s by %s", i, c.kin, c.rule)
			expect(t, ok || isZeroType(u), true, "ReplaceAt %d of %s by %s without a result", i, c.kin, c.rule)
		}
		expect(t, got, c.want, "FitsAt of %s by %s", c.kin, c.rule)
	}
	for _, i := range []int{lowest, lowest + 1, -1, 2, 8, highest - 1, highest} {
		expect(t, impl.FitsAt(rule(t, "a: B -> F"), kinType(t, "BB"), i), false, "FitsAt %d", i)
	}
}

func TestP13ReplaceAt(t *testing.T) {
	cases := []struct {
		rule, kin string
		i         int
		want      string
	}{
		{"a: FB -> F", "m:FBFB", 0, "m:FFB"}, {"a: FB -> F", "m:FBFB", 2, "m:FBF"}, {"a: FB -> F", "m:FBFB", 1, ""}, {"a: FB -> F", "FBS", 0, "FS"},
		{"a: m:FS -> .", "m:FS", 0, "m:."}, {"a: m:FS -> .", "m:BFSD", 1, "m:BD"}, {"a: m:FS -> .", "FS", 0, ""}, {"a: w:FS -> F", "FS", 0, ""}, {"a: w:FS -> H", "w:FSeB", 0, "w:HeB"},
		{"a: HW -> .", "HW", 0, "w:."}, {"a: HW -> .", "HWF", 0, "w:F"}, {"a: WH -> .", "WHWH", 2, "m:WH"}, {"a: FB -> F", "HFB", 1, "w:HF"}, {"a: FB -> F", "WFB", 1, "m:WF"}, {"a: H -> S", "HB", 0, "w:SB"}, {"a: FB -> F", "BFB", 1, "BF"},
		{"a: FeB -> FB", "FeBeB", 0, "FBeB"}, {"a: B -> F", "yBeB", 1, "yBF"}, {"a: SSSS -> FFFF", "m:DSSSSDFM", 1, "m:DFFFFDFM"}, {"a: BZ -> FZ", "BeZ", 0, "FZ"},
	}
	for _, c := range cases {
		u, ok := impl.ReplaceAt(rule(t, c.rule), kinType(t, c.kin), c.i)
		checkTypeText(t, u, ok, c.want, "ReplaceAt %d of %s by %s", c.i, c.kin, c.rule)
	}
}

func TestP13RewriteStep(t *testing.T) {
	cases := []struct {
		rules, kin, want string
		rule, place      int
	}{
		{"a: BS -> S; b: FB -> F", "m:FBS", "m:FS", 1, 0}, {"a: BS -> S; b: FB -> F", "m:BSFB", "m:SFB", 0, 0}, {"a: BS -> S; b: FB -> F", "m:MBS", "m:MS", 0, 1},
		{"a: FBS -> F; b: FB -> F", "FBS", "F", 0, 0}, {"b: FB -> F; a: FBS -> F", "FBS", "FS", 0, 0}, {"a: SS$ -> S; b: SS -> B", "SSSS", "BSS", 1, 0}, {"a: SS$ -> S; b: ^SS -> B", "DSS", "DS", 0, 1},
		{"a: eB -> F; b: B -> F; c: yB -> eB", "yB", "F", 1, 0}, {"a: w:B -> F; b: m:Z -> M", "BZ", "BM", 1, 1}, {"a: w:B -> F", "WB", "m:WF", 0, 1},
		{"a: FB -> F", "BF", "", 0, 0}, {"", "BF", "", 0, 0}, {"a: FB -> F", ".", "", 0, 0}, {"a: FB -> F", "m:.", "", 0, 0}, {"a: m:B -> F", "B", "", 0, 0},
	}
	for _, c := range cases {
		u, j, i, ok := impl.RewriteStep(ruleList(t, c.rules), kinType(t, c.kin))
		checkTypeText(t, u, ok, c.want, "RewriteStep of %s by %s", c.kin, c.rules)
		expect(t, []int{j, i}, []int{c.rule, c.place}, "rule and place of %s by %s", c.kin, c.rules)
	}
}

func TestP13NormalForm(t *testing.T) {
	cases := []struct{ name, kin, want string }{
		{"generation", "m:FZSS", "fz m:MSS; ms m:BS; bs m:S"}, {"generation", "FBS", "fb FS; fs B"}, {"generation", "w:MMMZD", "mz w:MMMD; md w:MMZ; mz w:MM"}, {"generation", "HFZD", "fz w:HMD; md w:HZ"},
		{"merging", "m:FBS", "fb m:FS; fs m:B"}, {"merging", "m:MBS", ""}, {"merging", "FZD", ""}, {"merging", "BS", ""}, {"merging", "m:BS", "bs m:S"}, {"merging", "w:BS", ""}, {"merging", "w:ZD", "zd w:D"}, {"merging", "ZD", ""}, {"merging", "FFBSeBS", "fb FFSeBS; fs FBeBS; fb FeBS; fb FS; fs B"},
		{"skewing", "m:MBS", "mbs m:MB"}, {"skewing", "MBSSSSSS", "mbs MBSSSSS; mbs MBSSSS; mbs MBSSS; mbs MBSS; mbs MBS; mbs MB"}, {"skewing", "w:MMBSD", "mbs w:MMBD; mbd w:MM"}, {"skewing", "WMBD", "mbd m:WM"},
		{"none", "HFB", ""}, {"none", ".", ""}, {"merging", "w:.", ""}, {"merging", "W", ""}, {"merging", "HF", ""},
	}
	for _, c := range cases {
		rules, k := impl.SampleRules(c.name), kinType(t, c.kin)
		lines := []string{c.kin}
		if c.want != "" {
			lines = append(lines, strings.Split(c.want, "; ")...)
		}
		expect(t, impl.TraceReduction(rules, k), lines, "TraceReduction of %s by %s", c.kin, c.name)
		last := lines[len(lines)-1]
		expect(t, wantTypeText(impl.NormalForm(rules, k)), last[strings.IndexByte(last, ' ')+1:], "NormalForm of %s by %s", c.kin, c.name)
	}
}

func TestP13ReductsOf(t *testing.T) {
	cases := []struct{ rules, kin, want string }{
		{"a: FB -> F", "m:FBFB", "m:FFB m:FBF"}, {"a: FB -> F; b: BS -> S; c: FB$ -> F", "FBS", "FS"}, {"a: FB -> F; b: BS -> B", "FBS", "FS FB"}, {"b: BS -> B; a: FB -> F", "FBS", "FS FB"},
		{"a: B -> F; b: eB -> B", "eByB", "FyB ByB eBF"}, {"b: eB -> B; a: B -> F", "eByB", "ByB FyB eBF"}, {"a: FF -> F", "FFFF", "FFF"}, {"a: FF -> F; b: FFF -> F; c: FFFF -> F", "FFFF", "FFF FF F"}, {"c: FFFF -> F; b: FFF -> F; a: FF -> F", "FFFF", "F FF FFF"},
		{"a: HW -> .; b: WH -> .", "HWHW", "w:HW"}, {"a: HW -> .", "HW", "w:."}, {"a: FB -> F", "HFB", "w:HF"},
		{"a: FB -> F", "FS", ""}, {"a: FB -> F", ".", ""}, {"", "FB", ""}, {"a: m:B -> F", "BB", "BF"},
	}
	for _, c := range cases {
		got := impl.ReductsOf(ruleList(t, c.rules), kinType(t, c.kin))
		expect(t, textsOf(got), strings.Fields(c.want), "ReductsOf %s by %s", c.kin, c.rules)
	}
}

func TestP13NormalFormsOf(t *testing.T) {
	cases := []struct{ rules, kin, want string }{
		{"a: FB -> F; b: BS -> B", "m:FBS", "m:F m:FS"}, {"a: BS -> B; b: FB -> F", "m:FBS", "m:F m:FS"}, {"a: FB -> F", "FBFBB", "FF"}, {"a: FB -> F", "HF", "HF"}, {"a: FB -> F", "HFB", "w:HF"}, {"", "W", "W"}, {"", ".", "."}, {"a: FB -> F", "w:.", "w:."},
		{"a: S -> B; b: S -> yB; c: S -> eB; d: S -> F", "S", "F B eB yB"}, {"a: SS -> yB; b: SS -> eBF; c: SS -> F", "SS", "F yB eBF"},
		{"a: DS -> MF; b: DS -> FB; c: ^FS -> F", "w:DS", "w:FB w:MF"}, {"a: DS -> MF; b: DS -> FB; c: DS -> S; d: DS -> F", "WDS", "m:WF m:WS m:WFB m:WMF"},
		{"a: WH -> .; b: HW -> .; c: WHW -> D", "WHW", "m:D m:W"}, {"a: eB$ -> F; b: yB -> eB", "yByB", "eBF"},
	}
	for _, c := range cases {
		got, ok := impl.NormalFormsOf(ruleList(t, c.rules), kinType(t, c.kin))
		expect(t, ok, true, "NormalFormsOf %s by %s succeeds", c.kin, c.rules)
		expect(t, textsOf(got), strings.Fields(c.want), "NormalFormsOf %s by %s", c.kin, c.rules)
	}
}

// TestP13MaxReached: from SSSyB, each step goes down by itself, over 5, 5, 5 and 4 letters.
func TestP13MaxReached(t *testing.T) {
	down := "a: S -> yB; b: yB -> eB; c: eB -> B; d: B -> F"
	cases := []struct {
		rules, kin, want string
	}{
		{down, "SSSyB", "FFFF"}, {down, "m:yBSSS", "m:FFFF"}, {down, "SSSeB", "FFFF"}, {down, "SSSS", ""}, {down, "SSSSSSSS", ""}, {down, "SyBSS", "FFFF"},
		{down + "; e: FFFF -> F", "SSSyB", ""}, {down + "; e: FFFF -> F", "SSSeB", "F"}, {down + "; e: ^FFFF -> FB", "SSSyB", ""},
		{down + "; e: yByByByB -> F", "SSSyB", ""}, {down, "FFFFSSSyB", "FFFFFFFF"}, {down, "FFFFSSSS", ""},
	}
	for _, c := range cases {
		rules, k := ruleList(t, c.rules), kinType(t, c.kin)
		got, ok := impl.NormalFormsOf(rules, k)
		want, wantOk := wantNormalForms(rules, k)
		expect(t, textsOf(want), strings.Fields(c.want), "the test's own rules: %s by %s", c.kin, c.rules)
		expect(t, ok, wantOk, "NormalFormsOf %s by %s succeeds", c.kin, c.rules)
		expect(t, textsOf(got), strings.Fields(c.want), "NormalFormsOf %s by %s", c.kin, c.rules)
	}
}

func TestP13IsConfluent(t *testing.T) {
	cases := map[string][]bool{
		"":                                {true, true, true},
		"a: FB -> F; b: BS -> B":          {true, true, false},
		"a: FB -> F; b: FB -> B":          {true, false, false},
		"a: w:FF -> F; b: w:FF -> S":      {true, false, false},
		"a: m:FF -> F; b: m:^FF -> S":     {true, false, false},
		"a: w:^FFF -> F; b: w:^FFF -> FF": {true, true, false},
		"a: m:^FFF -> F; b: m:^FFF -> FF": {true, true, false},
		"a: S -> B; b: S -> F":            {false, false, false},
		"a: S -> B; b: S -> F; c: B -> F": {true, true, true},
		"a: H -> S; b: H -> F":            {false, false, false},
		"a: W -> D; b: W -> Z":            {false, false, false},
		"a: eB -> B; b: eB -> F":          {true, true, true},
		"a: WH -> .; b: HW -> .":          {true, true, true},
		"a: FFFF -> F; b: FFFF -> S":      {true, true, true},
	}
	for texts, want := range cases {
		rules := ruleList(t, texts)
		for n := 1; n <= 3; n++ {
			expect(t, impl.IsConfluent(rules, n), want[n-1], "IsConfluent %s up to %d", texts, n)
		}
		for _, n := range []int{lowest, -1, 0, 4, 8, highest} {
			expect(t, impl.IsConfluent(rules, n), false, "IsConfluent %s up to %d", texts, n)
		}
	}
	for name := range sampleTexts() {
		for n := 1; n <= 3; n++ {
			expect(t, impl.IsConfluent(impl.SampleRules(name), n), wantConfluent(impl.SampleRules(name), n), "IsConfluent %s up to %d", name, n)
		}
	}
}

// TestP13ReductionByChance holds all functions against the plain ones.
func TestP13ReductionByChance(t *testing.T) {
	r := newChance(66)
	several, none, long := 0, 0, 0
	for _, rules := range someRules(t, r, 400) {
		for range 4 {
			k := typeWithParts(r, rules)
			checkReduction(t, rules, k)
			forms, ok := wantNormalForms(rules, k)
			if len(forms) > 1 {
				several++
			}
			if !ok {
				none++
			}
			if _, lines := wantTrace(rules, k); len(lines) > 5 {
				long++
			}
		}
	}
	if several < 100 || none < 3 || long < 50 {
		t.Errorf("%d types have several normal forms, %d reach too many types, %d have long traces", several, none, long)
	}
}

func checkReduction(t *testing.T, rules []impl.Rule, k impl.KinType) {
	t.Helper()
	for i := -1; i <= len(k.Steps); i++ {
		for _, r := range rules {
			expect(t, impl.FitsAt(r, k, i), wantFits(r, k, i), "FitsAt %v %v %d", r, k, i)
			u, ok := impl.ReplaceAt(r, k, i)
			if wantFits(r, k, i) {
				expect(t, ok && isSameType(u, wantReplaced(r, k, i)), true, "ReplaceAt %v %v %d", r, k, i)
			} else {
				expect(t, !ok && isZeroType(u), true, "ReplaceAt %v %v %d", r, k, i)
			}
		}
	}
	u, j, i, ok := impl.RewriteStep(rules, k)
	wantU, wantJ, wantI := wantRewritten(rules, k)
	expect(t, ok, wantJ >= 0, "RewriteStep %v %v succeeds", rules, k)
	expect(t, isSameType(u, wantU) && j == max(wantJ, 0) && i == wantI, true, "RewriteStep %v %v", rules, k)
	form, lines := wantTrace(rules, k)
	expect(t, isSameType(impl.NormalForm(rules, k), form), true, "NormalForm %v %v", rules, k)
	expect(t, impl.TraceReduction(rules, k), lines, "TraceReduction %v %v", rules, k)
	expect(t, impl.ReductsOf(rules, k), wantReducts(rules, k), "ReductsOf %v %v", rules, k)
	forms, ok := impl.NormalFormsOf(rules, k)
	wantForms, wantOk := wantNormalForms(rules, k)
	expect(t, ok, wantOk, "NormalFormsOf %v %v succeeds", rules, k)
	expect(t, forms, wantForms, "NormalFormsOf %v %v", rules, k)
}

func TestP13IsConfluentByChance(t *testing.T) {
	r := newChance(67)
	count := map[bool]int{}
	for range 120 {
		rules := chanceRules(r)
		n := 1 + r.IntN(3)
		want := wantConfluent(rules, n)
		expect(t, impl.IsConfluent(rules, n), want, "IsConfluent %v up to %d", rules, n)
		count[want]++
	}
	if count[true] < 10 || count[false] < 10 {
		t.Errorf("confluent or not: %v", count)
	}
}
