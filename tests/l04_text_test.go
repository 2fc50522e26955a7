package tests

import (
	"slices"
	"strings"
	"testing"

	"loop.example/g03221/impl"
)

func TestP2RuleText(t *testing.T) {
	step := func(kind int, age int) impl.Step { return impl.Step{Kind: kind, Age: age} }
	texts := map[string]impl.Rule{
		"fb: FB -> F":                        {Name: "fb", From: []impl.Step{step(1, 0), step(3, 0)}, To: []impl.Step{step(1, 0)}},
		"bd: m:BD -> D":                      {Name: "bd", Sex: impl.Man, From: []impl.Step{step(3, 0), step(6, 0)}, To: []impl.Step{step(6, 0)}},
		"w: w:^ZyB -> B":                     {Name: "w", Sex: impl.Woman, Place: impl.PlaceFirst, From: []impl.Step{step(4, 0), step(3, 2)}, To: []impl.Step{step(3, 0)}},
		"m: ^S -> F":                         {Name: "m", Place: impl.PlaceFirst, From: []impl.Step{step(5, 0)}, To: []impl.Step{step(1, 0)}},
		"last: eB$ -> B":                     {Name: "last", Place: impl.PlaceLast, From: []impl.Step{step(3, 1)}, To: []impl.Step{step(3, 0)}},
		"a: m:FS$ -> .":                      {Name: "a", Sex: impl.Man, Place: impl.PlaceLast, From: []impl.Step{step(1, 0), step(5, 0)}},
		"abcdefghijkl: HWHW -> .":            {Name: "abcdefghijkl", From: []impl.Step{step(7, 0), step(8, 0), step(7, 0), step(8, 0)}, To: []impl.Step{}},
		"zz: w:^eZyBeZyB -> eZyBeZeB":        {Name: "zz", Sex: 2, Place: 1, From: []impl.Step{step(4, 1), step(3, 2), step(4, 1), step(3, 2)}, To: []impl.Step{step(4, 1), step(3, 2), step(4, 1), step(3, 1)}},
		"x: W -> Z":                          {Name: "x", From: []impl.Step{step(8, 0)}, To: []impl.Step{step(4, 0)}},
		"y: w:SS -> H":                       {Name: "y", Sex: impl.Woman, From: []impl.Step{step(5, 0), step(5, 0)}, To: []impl.Step{step(7, 0)}},
		"q: WZ$ -> D":                        {Name: "q", Place: impl.PlaceLast, From: []impl.Step{step(8, 0), step(4, 0)}, To: []impl.Step{step(6, 0)}},
		"kinds: m:WMSD -> FMBM":              {Name: "kinds", Sex: impl.Man, From: []impl.Step{step(8, 0), step(2, 0), step(5, 0), step(6, 0)}, To: []impl.Step{step(1, 0), step(2, 0), step(3, 0), step(2, 0)}},
		strings.Repeat("e", 12) + ": Z -> M": {Name: "eeeeeeeeeeee", From: []impl.Step{step(4, 0)}, To: []impl.Step{step(2, 0)}},
	}
	for text, r := range texts {
		expect(t, impl.IsRule(r), true, "IsRule %s", text)
		expect(t, impl.FormatRule(r), text, "FormatRule")
		got, ok := impl.ParseRule(text)
		expect(t, ok && isSameRule(got, r), true, "ParseRule %q", text)
	}
	for label, r := range notRules(t) {
		expect(t, impl.FormatRule(r), "", "FormatRule: %s", label)
	}
}

func TestP2AllRulesAreReadBack(t *testing.T) {
	r := newChance(60)
	seen := map[string]impl.Rule{}
	for i := range 5000 {
		x := chanceRule(r, i%300)
		text := impl.FormatRule(x)
		expect(t, text, wantRuleText(x), "FormatRule %v", x)
		if old, ok := seen[text]; ok && !isSameRule(old, x) {
			t.Errorf("%v and %v have the same text", old, x)
		}
		seen[text] = x
		got, ok := impl.ParseRule(text)
		if !ok || !isSameRule(got, x) {
			t.Errorf("%v is read back as %v, %v", x, got, ok)
		}
	}
}

// TestP2RuleTextsOfParts puts texts together from parts, most of them wrong ones: those of valid rules are read, and no others.
func TestP2RuleTextsOfParts(t *testing.T) {
	rules := map[string]impl.Rule{}
	steps := [][]impl.Step{nil}
	for _, text := range []string{"F", "B", "eB", "FB", "FFF"} {
		steps = append(steps, looseType(text).Steps)
	}
	for _, from := range steps {
		for _, to := range steps {
			for sex := range 3 {
				for place := range 3 {
					r := impl.Rule{Name: "ab", Sex: sex, Place: place, From: from, To: to}
					rules[wantRuleText(r)] = r
				}
			}
		}
	}
	delete(rules, "")
	parts := [][]string{
		{"", "ab", "aB", "m:ab"}, {": ", ":", " : ", ""}, {"", "m:", "w:", "m:w:", "M:"}, {"", "^", "$"},
		{"", ".", "F", "B", "eB", "FB", "FFF"}, {"", "$", "^", "$$"}, {" -> ", "->", " -> -> ", " "}, {"", ".", "F", "eB", "FB", "F "},
	}
	read := 0
	var check func(text string, parts [][]string)
	check = func(text string, parts [][]string) {
		if len(parts) > 0 {
			for _, part := range parts[0] {
				check(text+part, parts[1:])
			}
			return
		}
		got, ok := impl.ParseRule(text)
		want, is := rules[text]
		if ok != is || !isSameRule(got, want) {
			t.Errorf("ParseRule %q: got %v, %v, want %v, %v", text, got, ok, want, is)
		}
		if ok {
			read++
		}
	}
	check("", parts)
	if read < 50 {
		t.Errorf("%d texts are read", read)
	}
}

func TestP2OtherRuleTexts(t *testing.T) {
	texts := []string{
		"", " ", ".", ":", ": ", " -> ", ": -> ", ":  -> ", ": . -> .", "a", "a: ", "a: FB", "a: FB -> ", "a:  -> F", "a: . -> .", "a: . -> F", "FB -> F", ": FB -> F", "a FB -> F",
		"a:FB -> F", "a : FB -> F", "a:  FB -> F", " a: FB -> F", "a: FB -> F ", "a: FB -> F\n", "a: FB  -> F", "a: FB ->  F", "a: FB->F", "a: FB - > F", "a: FB → F", "a: FB => F", "a: FB <- F", "a: F B -> F",
		"A: FB -> F", "a1: FB -> F", "a b: FB -> F", "ä: FB -> F", "abcdefghijklm: FB -> F", "a: b: FB -> F", "a: a: FB -> F", "m:FB -> F", "a: M:FB -> F", "a: x:FB -> F", "a: m: FB -> F", "a: m:m:FB -> F", "a: m:w:FB -> F",
		"a: ^m:FB -> F", "a: ^^FB -> F", "a: FB$$ -> F", "a: ^FB$ -> F", "a: $FB -> F", "a: FB^ -> F", "a: F^B -> F", "a: F$B -> F", "a: FB -> ^F", "a: FB -> F$", "a: FB -> m:F", "a: m:FB -> m:F", "a: ^ -> F", "a: $ -> F", "a: ^$ -> F",
		"a: FB -> F -> F", "a: FB -> F.", "a: FB -> .F", "a: FB. -> F", "a: .FB -> F", "a: FB -> e", "a: FB -> Fe", "a: e -> F", "a: FBy -> F", "a: eyB -> F", "a: yB -> eF", "a: fb -> f", "a: FB -> f",
		"a: FFFFB -> F", "a: FFFFFFFFB -> F", "a: FFFFFFFFF -> F", "a: FB -> FFFFFFFFF", "a: FB -> FFF", "a: FB -> FB", "a: FB -> FyB", "a: FB -> SS",
		"a: FS -> .", "a: FB -> M", "a: FH -> F", "a: w:W -> Z", "a: m:H -> F", "a: m:FB -> H", "a: FB -> H",
		"a: FB\x00 -> F", "a: FB -> F\x00", "\x00a: FB -> F", "\xff: FB -> F", "a: \xffB -> F", "a: FB -> \xff", "a: Ｆ -> F", "a\uff1a FB -> F",
	}
	for _, text := range texts {
		r, ok := impl.ParseRule(text)
		expect(t, !ok && isZeroRule(r), true, "ParseRule %q", text)
	}
	for _, part := range []string{"F", "a", ": ", " -> ", "^", "$", "a: FB -> F", "\xff", "e", "."} {
		long := strings.Repeat(part, 300000)
		for _, text := range []string{long, "a: " + long + " -> F", "a: FB -> " + long, long + ": FB -> F", "a: FB -> F" + long} {
			r, ok := impl.ParseRule(text)
			expect(t, !ok && isZeroRule(r), true, "ParseRule of %d bytes", len(text))
		}
	}
}

// TestP2ChangedRuleTexts changes, removes and adds each byte of texts: what is still read is the text of what is read.
func TestP2ChangedRuleTexts(t *testing.T) {
	accepted := 0
	check := func(text string) {
		r, ok := impl.ParseRule(text)
		if ok && (wantRuleText(r) != text || impl.FormatRule(r) != text) {
			t.Errorf("ParseRule accepts %q as %v", text, r)
		}
		if !ok && !isZeroRule(r) {
			t.Errorf("ParseRule refuses %q, but returns %v", text, r)
		}
		if ok {
			accepted++
		}
	}
	for _, text := range []string{"ab: m:^FeZyBS -> FZB", "abcdefghijkl: w:HW$ -> .", "zz: FB -> F", "m: WH -> .", "w: w:eByB -> B"} {
		eachChange(text, check)
	}
	if accepted < 1000 {
		t.Errorf("%d changed texts are read", accepted)
	}
}

// TestP2SampleRulesAreReadBack reads the samples as one would read a file of rules.
func TestP2SampleRulesAreReadBack(t *testing.T) {
	for name, texts := range sampleTexts() {
		rules := impl.SampleRules(name)
		again := []string{}
		for _, r := range rules {
			again = append(again, impl.FormatRule(r))
		}
		expect(t, again, strings.Split(texts, "; "), "the texts of %s", name)
		expect(t, slices.EqualFunc(ruleList(t, texts), rules, isSameRule), true, "the rules of %s", name)
	}
}
