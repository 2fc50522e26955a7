package tests

import (
	"slices"
	"strings"
	"testing"

	"loop.example/g03221/impl"
)

func TestP13TermConstants(t *testing.T) {
	expect(t, []int{impl.MaxEntries, impl.MaxCatalog, impl.MaxPairs}, []int{60, 8, 40}, "limits")
}

func TestP13SampleTerminology(t *testing.T) {
	const first = "F father; M mother; B brother; Z sister; S son; D daughter; H husband; W wife"
	entries := map[string]string{
		"generation": first,
		"merging":    first + "; FZ aunt; MB uncle; FZS cousin; FZD cousin; MBS cousin; MBD cousin",
		"skewing":    first + "; FZ aunt; MB uncle; FZS cousin; FZD cousin",
	}
	for name, texts := range entries {
		y := impl.SampleTerminology(name)
		got := []string{}
		for _, e := range y.Entries {
			got = append(got, wantTypeText(e.Type)+" "+e.Term)
		}
		expect(t, strings.Join(got, "; "), texts, "the entries of %s", name)
		expect(t, slices.EqualFunc(y.Rules, ruleList(t, sampleTexts()[name]), isSameRule), true, "the rules of %s", name)
		expect(t, impl.IsTerminology(y) && wantTerminology(y), true, "IsTerminology %s", name)
	}
	for _, name := range []string{"", "Merging", "merging ", " skewing", "generations", "merg", "skewing\x00", "\xff"} {
		expect(t, isZeroTerminology(impl.SampleTerminology(name)), true, "SampleTerminology %q", name)
	}
}

func TestP13IsTerminology(t *testing.T) {
	entry := func(text string, term string) impl.Entry { return impl.Entry{Type: looseType(text), Term: term} }
	merging := impl.SampleRules("merging")
	valid := map[string]impl.Terminology{
		"the zero value":            {},
		"rules alone":               {Rules: namedRules(t, 12)},
		"sixty entries":             {Entries: manyEntries(60)},
		"sixty entries, rules":      {Rules: namedRules(t, 12), Entries: manyEntries(60)},
		"the same steps":            {Entries: []impl.Entry{entry("B", "a"), entry("m:B", "a"), entry("w:B", "b"), entry("eB", "a"), entry("w:yB", "a")}},
		"no steps":                  {Entries: []impl.Entry{entry(".", "a"), entry("w:.", "a"), entry("m:.", "b")}},
		"wives and husbands":        {Entries: []impl.Entry{entry("W", "a"), entry("m:W", "b"), entry("H", "c"), entry("w:H", "d")}},
		"eight steps, twelve bytes": {Rules: merging, Entries: []impl.Entry{entry("w:FFFFFFFF", "abcdefghijkl")}},
		"reduced for a man alone":   {Rules: merging, Entries: []impl.Entry{entry("BS", "nephew"), entry("w:BS", "nephew"), entry("MBS", "cousin"), entry("w:ZFZ", "a")}},
		"reduced elsewhere":         {Rules: ruleList(t, "a: ^FB -> F; b: MZ$ -> M; c: eB -> B"), Entries: []impl.Entry{entry("MFB", "a"), entry("MZM", "b"), entry("B", "c"), entry("yB", "d")}},
	}
	for label, y := range valid {
		expect(t, wantTerminology(y), true, "the test's own rules: %s", label)
		expect(t, impl.IsTerminology(y), true, "IsTerminology: %s", label)
	}
	for label, y := range notTerminologies(t) {
		expect(t, wantTerminology(y), false, "the test's own rules: %s", label)
		expect(t, impl.IsTerminology(y), false, "IsTerminology: %s", label)
	}
	slow := impl.Terminology{Rules: countdown(t), Entries: []impl.Entry{entry("m:SSSSSSSS", "a")}}
	expect(t, impl.IsTerminology(slow), false, "IsTerminology: a type that is reduced in very many steps")
}

// TestP13IsTerminologyByChance changes entries, mostly to types that might be reduced.
func TestP13IsTerminologyByChance(t *testing.T) {
	r := newChance(85)
	count := map[bool]int{}
	for range 3000 {
		y := chanceTerminology(r)
		for i := range y.Entries {
			if r.IntN(20) == 0 {
				y.Entries[i].Type = typeWithParts(r, y.Rules)
			}
			if r.IntN(60) == 0 {
				y.Entries[i].Type = y.Entries[r.IntN(len(y.Entries))].Type
			}
		}
		want := wantTerminology(y)
		count[want]++
		expect(t, impl.IsTerminology(y), want, "IsTerminology %v", y)
		expect(t, impl.FormatTerminology(y), wantTerminologyText(y), "FormatTerminology %v", y)
	}
	if count[true] < 500 || count[false] < 500 {
		t.Errorf("valid or not: %v", count)
	}
}

func TestP13TermForOfSamples(t *testing.T) {
	cases := map[string]string{
		"merging":    "m:FBS brother; FBS brother; m:BS son; BS -; w:BS -; w:ZS son; m:ZS -; MBS cousin; m:MBD cousin; FZD cousin; FZ aunt; MZ mother; MB uncle; eB -; w:yZ -; FeB father; FFBSeBS brother; HF -; H husband; w:H husband; W wife; m:W wife; . -; m:. -; w:. -; FFB -; F father; HFZ -; WFBS -",
		"skewing":    "MBS uncle; MBSSSSSS uncle; w:MMBD -; m:MBD mother; FZD cousin; WMBD -; FZS cousin",
		"generation": "MBS brother; FZ mother; MB father; m:FZSS son; FBFB -; BS son; ZD daughter; HFZD -; W wife; m:BBS son; eBS son",
		"none":       "F -; . -; m:. -",
	}
	for name, list := range cases {
		y := impl.SampleTerminology(name)
		for _, text := range strings.Split(list, "; ") {
			kin, term, _ := strings.Cut(text, " ")
			checkTerm(t, y, kin, strings.Trim(term, "-"), name)
		}
	}
}

func checkTerm(t *testing.T, y impl.Terminology, kin string, want string, label string) {
	t.Helper()
	term, ok := impl.TermFor(y, kinType(t, kin))
	expect(t, term, want, "TermFor %s by %s", kin, label)
	expect(t, ok, want != "", "TermFor %s by %s succeeds", kin, label)
}

// TestP13TermForOfEgo: which entry comes first, and whom its Ego is for.
func TestP13TermForOfEgo(t *testing.T) {
	cases := []struct{ lines, terms string }{
		{"term W a; term m:W b", "W a; m:W a"},
		{"term m:W b; term W a", "W b; m:W b"},
		{"term m:W b", "W b; m:W b; H -"},
		{"term w:H b; term H a", "H b; w:H b; W -"},
		{"term H a; term w:H b", "H a; w:H a"},
		{"term m:Z x; term Z y; term w:Z v", "Z y; m:Z x; w:Z y; eZ -"},
		{"term w:Z v; term Z y; term m:Z x", "Z y; m:Z y; w:Z v"},
		{"term m:Z x; term w:Z v; term Z y", "Z y; m:Z x; w:Z v"},
		{"term m:Z x", "Z -; m:Z x; w:Z -"},
		{"term Z y", "Z y; m:Z y; w:Z y; yZ -; ZZ -"},
		{"term m:B x; term eB y; term w:yB z", "B -; m:B x; eB y; m:eB y; w:eB y; yB -; w:yB z; m:yB -"},
		{"term . self", ". self; m:. self; w:. self; F -"},
		{"term m:. him; term w:. her", ". -; m:. him; w:. her"},
		{"term m:. him; term . self; term w:. her", ". self; m:. him; w:. self"},
		{"rule a: HF -> S; term w:S s", "HF s; w:HF s; S -; w:S s; m:S -; HeB -"},
		{"rule a: HW -> .; rule b: m:WH -> .; term w:. her", "HW her; w:HW her; . -; m:. -; WH -; m:WH -; HWHW her"},
		{"rule a: H -> F; rule b: W -> M; term w:F in; term m:M in; term F f; term M m", "H in; w:H in; F f; m:F f; w:F in; W in; M m; w:M m; m:M in"},
		{"rule a: m:BS -> S; term BS x; term w:BS y; term S z", "BS x; m:BS z; w:BS x; WBS -"},
		{"rule a: eB -> B; rule b: B$ -> F; term F x; term yBF y", "eB x; B x; yB x; F x; yBF y; m:yBF y; BF -; eBF -"},
		{"", "F -; . -; m:W -"},
	}
	for _, c := range cases {
		y := terminology(t, c.lines)
		for _, text := range strings.Split(c.terms, "; ") {
			kin, term, _ := strings.Cut(text, " ")
			checkTerm(t, y, kin, strings.Trim(term, "-"), c.lines)
		}
	}
}

func TestP13TermForByChance(t *testing.T) {
	r := newChance(86)
	for _, y := range someTerminologies(t, r, 300) {
		for _, k := range typesToCall(r, y) {
			term, ok := impl.TermFor(y, k)
			want, wantOk := wantTermFor(y, k)
			expect(t, term == want && ok == wantOk, true, "TermFor %v by %v: %s, %v, not %s", k, y, term, ok, want)
		}
	}
}

func entryTexts(entries []impl.Entry) string {
	list := []string{}
	for _, e := range entries {
		list = append(list, wantTypeText(e.Type)+" "+e.Term)
	}
	return strings.Join(list, "; ")
}

func TestP13TermTable(t *testing.T) {
	y := impl.SampleTerminology("merging")
	expect(t, entryTexts(impl.TermTable(y, impl.Man, 1)), "m:F father; m:M mother; m:B brother; m:Z sister; m:S son; m:D daughter; m:W wife", "TermTable of a man")
	expect(t, entryTexts(impl.TermTable(y, impl.Woman, 1)), "w:F father; w:M mother; w:B brother; w:Z sister; w:S son; w:D daughter; w:H husband", "TermTable of a woman")
	want := "; m:FB father; m:FZ aunt; m:FS brother; m:FD sister; m:MB uncle; m:MZ mother; m:MS brother; m:MD sister; m:BS son; m:BD daughter"
	expect(t, entryTexts(impl.TermTable(y, impl.Man, 2)), entryTexts(impl.TermTable(y, impl.Man, 1))+want, "TermTable up to two steps")
	expect(t, len(impl.TermTable(y, impl.Woman, 3)), len(wantTermTable(y, impl.Woman, 3)), "TermTable up to three steps")
	for _, ego := range []int{lowest, -1, 0, 3, highest} {
		for n := -1; n < 5; n++ {
			expect(t, len(impl.TermTable(y, ego, n)), 0, "TermTable %d %d", ego, n)
			expect(t, len(impl.TypesCalled(y, ego, n, "father")), 0, "TypesCalled %d %d", ego, n)
		}
	}
	for _, n := range []int{lowest, -1, 0, 4, 8, highest} {
		for ego := 1; ego <= 2; ego++ {
			expect(t, len(impl.TermTable(y, ego, n)), 0, "TermTable %d %d", ego, n)
			expect(t, len(impl.TypesCalled(y, ego, n, "father")), 0, "TypesCalled %d %d", ego, n)
		}
	}
	for n := 1; n <= 3; n++ {
		expect(t, len(impl.TermTable(impl.Terminology{}, impl.Man, n)), 0, "TermTable without entries")
	}
}

func TestP13TypesCalled(t *testing.T) {
	cases := []struct {
		name   string
		ego, n int
		term   string
		want   string
	}{
		{"merging", 1, 1, "brother", "m:B"}, {"merging", 1, 2, "brother", "m:B m:FS m:MS"}, {"merging", 2, 2, "father", "w:F w:FB"}, {"merging", 1, 2, "aunt", "m:FZ"}, {"merging", 1, 2, "cousin", ""}, {"merging", 2, 3, "cousin", "w:FZS w:FZD w:MBS w:MBD"},
		{"merging", 1, 1, "husband", ""}, {"merging", 2, 1, "husband", "w:H"}, {"merging", 1, 1, "wife", "m:W"}, {"merging", 2, 2, "son", "w:S w:ZS"}, {"merging", 1, 2, "son", "m:S m:BS"},
		{"generation", 2, 2, "mother", "w:M w:FZ w:MZ"}, {"generation", 1, 2, "daughter", "m:D m:BD m:ZD"}, {"skewing", 1, 3, "uncle", "m:MB m:MFS m:MMS m:MBS m:MZB"},
		{"merging", 1, 3, "", ""}, {"merging", 1, 3, "Brother", ""}, {"merging", 1, 3, "brothe", ""}, {"merging", 1, 3, "\xff", ""}, {"none", 1, 3, "", ""},
	}
	for _, c := range cases {
		y := impl.SampleTerminology(c.name)
		expect(t, textsOf(impl.TypesCalled(y, c.ego, c.n, c.term)), strings.Fields(c.want), "TypesCalled %s %d %d %q", c.name, c.ego, c.n, c.term)
	}
}

func TestP13TermTableByChance(t *testing.T) {
	r := newChance(87)
	for _, y := range someTerminologies(t, r, 60) {
		ego, n := 1+r.IntN(2), 1+r.IntN(3)
		table := impl.TermTable(y, ego, n)
		expect(t, table, wantTermTable(y, ego, n), "TermTable %d %d of %v", ego, n, y)
		for _, term := range []string{"a", "kin", "father", "her", ""} {
			expect(t, impl.TypesCalled(y, ego, n, term), wantTypesCalled(y, ego, n, term), "TypesCalled %d %d %s of %v", ego, n, term, y)
		}
	}
}
