package tests

import (
	"strings"
	"testing"

	"loop.example/g03221/impl"
)

func TestP2FamilyText(t *testing.T) {
	f := parse(t, house)
	expect(t, impl.FormatFamily(f), house, "the text that was read")
	want := impl.Family{
		People: []impl.Person{
			{Name: "union", Sex: impl.Woman, Father: -1, Mother: -1, Born: 0, Died: -1},
			{Name: "woman", Sex: impl.Man, Father: -1, Mother: -1, Born: 9, Died: 9999},
			{Name: "man", Sex: impl.Man, Father: 1, Mother: 0, Born: 100, Died: -1},
		},
		Unions: []impl.Union{{Man: 1, Woman: 0, From: 10, To: 1000}, {Man: 2, Woman: 0, From: 101, To: -1}},
	}
	text := "woman union - - 0 -\nman woman - - 9 9999\nman man woman union 100 -\nunion woman union 10 1000\nunion man union 101 -\n"
	expect(t, impl.FormatFamily(want), text, "a text")
	expect(t, impl.EqualFamilies(parse(t, text), want), true, "the family of the text")
	empty, ok := impl.ParseFamily("")
	expect(t, ok && isZeroFamily(empty), true, "the family of the empty text")
	expect(t, impl.FormatFamily(impl.Family{}), "", "the text of the empty family")
	expect(t, impl.FormatFamily(parentsAnd(func(f *impl.Family) { f.People[2].Sex = 3 })), "", "the text of a family that is not valid")
}

func TestP2OtherTexts(t *testing.T) {
	const a, b, c = "man a - - 0 -\n", "woman b - - 0 -\n", "union a b 5 -\n"
	parse(t, a+b+c)
	texts := []string{
		"\n", " ", "-", "man", "man a - - 0 -", a + "\n", "\n" + a, a + b + c + "union", a + "man", a + b + c[:len(c)-1],
		"man a - - 0 - \n", " man a - - 0 -\n", "man  a - - 0 -\n", "man a  - - 0 -\n", "man a - - 0  -\n", "man a - - 0 -\r\n", "man\ta - - 0 -\n",
		"man a - - 0\n", "man a - - 0 - -\n", "man a - 0 -\n", "man\n", "man \n", "man - - 0 -\n", "a - - 0 -\n",
		"Man a - - 0 -\n", "men a - - 0 -\n", "womans a - - 0 -\n", "1 a - - 0 -\n", "person a - - 0 -\n",
		"man A - - 0 -\n", "man abcdefghijklm - - 0 -\n", "man a1 - - 0 -\n", "man - - - 0 -\n", "man \xc3\xa9 - - 0 -\n",
		"man a - - 00 -\n", "man a - - 01 -\n", "man a - - +1 -\n", "man a - - -1 -\n", "man a - - - -\n", "man a - - -0 -\n", "man a - - 10000 -\n",
		"man a - - 1e1 -\n", "man a - - 0x1 -\n", "man a - - 1_0 -\n", "man a - - ٣ -\n", "man a - - 1\xff -\n", "man a - - 1. -\n", "man a - - 1/ -\n", "man a - - 1: -\n",
		"man a - - 18446744073709551617 -\n", "man a - - 0 18446744073709551617\n", "man a - - 0 " + strings.Repeat("9", 1000) + "\n",
		"man a - - 0 -1\n", "man a - - 0 00\n", "man a - - 0 --\n", "man a - - 5 4\n", "man a - - 0 10000\n",
		a + a, a + "woman a - - 0 -\n", a + "man c x - 9 -\n", a + "man c 0 - 9 -\n", a + "man c - a 9 -\n", b + "man c b - 9 -\n", "man a a - 1 -\n",
		"man c a - 9 -\n" + a, a + "man c a - 0 -\n", a + "man c a  9 -\n",
		c, a + c, b + c, a + b + c + c, a + c + b, c + a + b, a + b + c + "man d - - 0 -\n",
		a + b + "union b a 5 -\n", a + b + "union a - 5 -\n", a + b + "union - b 5 -\n", a + b + "union a b 5\n", a + b + "union a b 5 - -\n", a + b + "union a b - -\n",
		a + b + "union a b 05 -\n", a + b + "union a b 5 4\n", a + b + "union a b 5 06\n", a + b + "union  a b 5 -\n", a + b + "union a b 5 10000\n", a + b + "union a c 5 -\n", a + b + "unions a b 5 -\n",
	}
	for _, text := range texts {
		f, ok := impl.ParseFamily(text)
		expect(t, ok, false, "ParseFamily %q", text)
		expect(t, isZeroFamily(f), true, "the family for %q", text)
	}
}

// TestP2ChangedTexts changes, removes and adds each byte of texts: what is still read is the text of what is read.
func TestP2ChangedTexts(t *testing.T) {
	text := "man adam - - 9 10\nwoman eva - - 0 -\nman cain adam eva 11 -\nunion adam eva 10 10\nunion cain eva 99 -\n"
	accepted := 0
	check := func(s string) {
		f, ok := impl.ParseFamily(s)
		if ok && (impl.FormatFamily(f) != s || !wantFamily(f) || wantText(f) != s) {
			t.Errorf("ParseFamily accepts %q as %v", s, f)
		}
		if !ok && !isZeroFamily(f) {
			t.Errorf("ParseFamily refuses %q, but returns %v", s, f)
		}
		if ok {
			accepted++
		}
	}
	eachChange(text, check)
	if accepted < 100 {
		t.Errorf("%d changed texts are read", accepted)
	}
}

func TestP2ByChance(t *testing.T) {
	r := newChance(13)
	for range 400 {
		f := chanceFamily(r)
		text := impl.FormatFamily(f)
		expect(t, text, wantText(f), "the text of %v", f)
		g, ok := impl.ParseFamily(text)
		if !ok || !impl.EqualFamilies(f, g) {
			t.Errorf("%v is read back as %v, %v", f, g, ok)
		}
	}
}

// TestP2InvalidFamiliesText: what would be the text of a family, if that were valid, is not read.
func TestP2InvalidFamiliesText(t *testing.T) {
	r := newChance(14)
	refused := 0
	for range 5000 {
		f := copyOf(chanceFamily(r))
		if len(f.People) == 0 {
			continue
		}
		p := &f.People[r.IntN(len(f.People))]
		switch r.IntN(4) {
		case 0:
			p.Born = max(0, p.Born+r.IntN(9)-4)
		case 1:
			p.Died = p.Born + r.IntN(5) - 1
		case 2:
			p.Sex = 3 - p.Sex
		case 3:
			p.Name = f.People[0].Name
		}
		g, ok := impl.ParseFamily(wantText(f))
		if ok != wantFamily(f) || ok && !impl.EqualFamilies(f, g) || !ok && !isZeroFamily(g) {
			t.Fatalf("the text of %v is read as %v, %v", f, g, ok)
		}
		if !ok {
			refused++
		}
	}
	if refused < 500 {
		t.Errorf("%d texts are refused", refused)
	}
}

func TestP2LongTexts(t *testing.T) {
	for _, text := range []string{
		strings.Repeat("man a - - 0 -\n", 100000),
		strings.Repeat(" ", 1000000),
		strings.Repeat("\n", 1000000),
		"man " + strings.Repeat("a", 1000000) + " - - 0 -\n",
	} {
		_, ok := impl.ParseFamily(text)
		expect(t, ok, false, "a text of %d bytes", len(text))
	}
}
