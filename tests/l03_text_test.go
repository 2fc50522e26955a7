package tests

import (
	"strings"
	"testing"

	"loop.example/g03221/impl"
)

func TestP2TypeText(t *testing.T) {
	step := func(kind int, age int) impl.Step { return impl.Step{Kind: kind, Age: age} }
	texts := map[string]impl.KinType{
		".":            {},
		"m:.":          {Ego: impl.Man},
		"w:.":          {Ego: impl.Woman, Steps: []impl.Step{}},
		"F":            {Steps: []impl.Step{step(impl.StepFather, 0)}},
		"M":            {Steps: []impl.Step{step(impl.StepMother, 0)}},
		"m:B":          {Ego: impl.Man, Steps: []impl.Step{step(impl.StepBrother, impl.AnyAge)}},
		"eB":           {Steps: []impl.Step{step(impl.StepBrother, impl.Elder)}},
		"w:yB":         {Ego: impl.Woman, Steps: []impl.Step{step(impl.StepBrother, impl.Younger)}},
		"Z":            {Steps: []impl.Step{step(impl.StepSister, 0)}},
		"eZyZ":         {Steps: []impl.Step{step(impl.StepSister, impl.Elder), step(impl.StepSister, impl.Younger)}},
		"SD":           {Steps: []impl.Step{step(impl.StepSon, 0), step(impl.StepDaughter, 0)}},
		"w:H":          {Ego: impl.Woman, Steps: []impl.Step{step(impl.StepHusband, 0)}},
		"m:W":          {Ego: impl.Man, Steps: []impl.Step{step(impl.StepWife, 0)}},
		"HW":           {Steps: []impl.Step{step(impl.StepHusband, 0), step(impl.StepWife, 0)}},
		"m:WHWHWHWH":   {Ego: impl.Man, Steps: []impl.Step{step(8, 0), step(7, 0), step(8, 0), step(7, 0), step(8, 0), step(7, 0), step(8, 0), step(7, 0)}},
		"yByByByBeZFM": {Steps: []impl.Step{step(3, 2), step(3, 2), step(3, 2), step(3, 2), step(4, 1), step(1, 0), step(2, 0)}},
	}
	for text, k := range texts {
		expect(t, impl.FormatType(k), text, "FormatType")
		got, ok := impl.ParseType(text)
		expect(t, ok && isSameType(got, k), true, "ParseType %q", text)
	}
	for label, k := range notTypes() {
		expect(t, impl.FormatType(k), "", "FormatType: %s", label)
	}
}

func TestP2AllTypesAreReadBack(t *testing.T) {
	types := typesUpTo(3)
	r := newChance(41)
	for range 3000 {
		types = append(types, chanceType(r, r.IntN(9)))
	}
	seen := map[string]impl.KinType{}
	for _, k := range types {
		text := impl.FormatType(k)
		expect(t, text, wantTypeText(k), "FormatType %v", k)
		if old, ok := seen[text]; ok && !isSameType(old, k) {
			t.Errorf("%v and %v have the same text", old, k)
		}
		seen[text] = k
		got, ok := impl.ParseType(text)
		if !ok || !isSameType(got, k) {
			t.Errorf("%v is read back as %v, %v", k, got, ok)
		}
	}
}

// TestP2ShortTexts holds all texts of at most four of these bytes against the texts of all types.
func TestP2ShortTexts(t *testing.T) {
	const bytes = "mw:.eyFMBZSDHWf\xff"
	types := map[string]impl.KinType{}
	for _, k := range typesUpTo(4) {
		types[wantTypeText(k)] = k
	}
	var check func(text string)
	check = func(text string) {
		got, ok := impl.ParseType(text)
		want, is := types[text]
		if ok != is || !isSameType(got, want) {
			t.Errorf("ParseType %q: got %v, %v, want %v, %v", text, got, ok, want, is)
		}
		if len(text) == 4 {
			return
		}
		for i := range len(bytes) {
			check(text + bytes[i:i+1])
		}
	}
	check("")
}

func TestP2OtherTypeTexts(t *testing.T) {
	texts := []string{
		"", " ", "..", ".F", "F.", "m:", "w:", "m", "w", ":", ":F", "0:F", "M:F", "W:F", "x:F", "mF", "m :F", "m: F", "m:F ", " m:F", "m:F\n", "m::F", "m:m:F", "m:w:F", "m:..",
		"f", "F M", "F,M", "e", "y", "m:e", "eF", "yM", "eS", "yD", "w:eH", "m:yW", "eeB", "yeB", "eyB", "yyZ", "Be", "BeF", "ZyS", "EB", "YB", "e.", "3B", "B0",
		"m:H", "w:W", "FH", "MW", "BH", "ZW", "SH", "DW", "HH", "WW", "m:WW", "w:HH", "FMFMH" + "H",
		"FFFFFFFFF", "m:MMMMMMMMM", "eBeBeBeBeBeBeBeBeB", "w:HWHWHWHWH",
		"\x00", "F\x00", "\xff", "m:\xff", "F\xc3", "Ｆ", "Μ", "В", "é", "F\u0301", "\ufffd", "m\uff1aF", "１:F",
	}
	for _, text := range texts {
		k, ok := impl.ParseType(text)
		expect(t, !ok && isZeroType(k), true, "ParseType %q", text)
	}
	for _, text := range []string{strings.Repeat("F", 1000000), strings.Repeat("e", 1000000) + "B", strings.Repeat("m:", 1000000), strings.Repeat("\xff", 1000000)} {
		k, ok := impl.ParseType(text)
		expect(t, !ok && isZeroType(k), true, "ParseType of %d bytes", len(text))
	}
}

// TestP2ChangedTypeTexts changes, removes and adds each byte of texts: what is still read is the text of what is read.
func TestP2ChangedTypeTexts(t *testing.T) {
	accepted := 0
	check := func(text string) {
		k, ok := impl.ParseType(text)
		if ok && (wantTypeText(k) != text || impl.FormatType(k) != text) {
			t.Errorf("ParseType accepts %q as %v", text, k)
		}
		if !ok && !isZeroType(k) {
			t.Errorf("ParseType refuses %q, but returns %v", text, k)
		}
		if ok {
			accepted++
		}
	}
	for _, text := range []string{"m:FeZHyBSDWM", "w:HWHWHWHW", "eByZeByZeByZeBF", "m:.", "."} {
		eachChange(text, check)
	}
	if accepted < 100 {
		t.Errorf("%d changed texts are read", accepted)
	}
}

// saidByTypes has everything that the functions of kin types say of two persons, without names.
func saidByTypes(f impl.Family, types []impl.KinType, a int, b int) []string {
	short, ok := impl.ShortestType(f, a, b)
	said := append(textsOf(impl.TypesBetween(f, a, b, 3)), wantTypeText(short))
	if !ok {
		said = append(said, "none")
	}
	for _, k := range types {
		if impl.IsRelated(impl.RelationFor(f, k), a, b) {
			said = append(said, wantTypeText(k))
		}
	}
	return said
}

func TestP2KinTypesWithoutNamesAndOrder(t *testing.T) {
	r := newChance(42)
	for round := range 12 {
		f := kinFamily(r, 1+r.IntN(12))
		types := append(wantTypesFrom(impl.Man, 2), wantTypesFrom(impl.Woman, 2)...)
		if round%2 == 0 {
			// All are born in different years, so that the elder ones are the same in each order.
			types = typesUpTo(1)
			for i := range f.People {
				f.People[i].Born = f.People[i].Born*50 + i
			}
			for k, u := range f.Unions {
				f.Unions[k].From, f.Unions[k].To = max(f.People[u.Man].Born, f.People[u.Woman].Born), -1
			}
		}
		renamed, okRenamed := impl.RenamePeople(f, otherNames(len(f.People)))
		order := parentsFirst(r, f)
		moved, okMoved := impl.PermutePeople(f, order)
		if !okRenamed || !okMoved {
			t.Fatalf("not renamed or moved: %v", f)
		}
		for k, a := range order {
			for j, b := range order {
				want := saidByTypes(f, types, a, b)
				expect(t, saidByTypes(renamed, types, a, b), want, "%d and %d of %v and %v", a, b, f, renamed)
				expect(t, saidByTypes(moved, types, k, j), want, "%d and %d of %v and %v", a, b, f, moved)
			}
		}
	}
}

// otherNames has names that kinFamily does not give.
func otherNames(n int) []string {
	names := make([]string, n)
	for i := range names {
		names[i] = "zz" + string(rune('a'+(n-i)%26)) + string(rune('a'+(n-i)/26))
	}
	return names
}
