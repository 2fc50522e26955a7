package tests

import (
	"slices"
	"strings"
	"testing"

	"loop.example/g03221/impl"
)

// genesis has all kinds of events, and in the year 30 they are not in the order of their kinds.
const genesis = "0 born adam man - -\n" +
	"2 born eva woman - -\n" +
	"18 union adam eva\n" +
	"20 born cain man adam eva\n" +
	"30 died cain\n" +
	"30 parted adam eva\n" +
	"30 born enos man cain -\n" +
	"30 born ada woman - eva\n" +
	"9999 union enos ada\n"

func genesisEvents() []impl.Event {
	return []impl.Event{
		birth(0, "adam", 1, -1, -1),
		birth(2, "eva", 2, -1, -1),
		union(18, 0, 1),
		birth(20, "cain", 1, 0, 1),
		death(30, 2),
		parting(30, 0, 1),
		birth(30, "enos", 1, 2, -1),
		birth(30, "ada", 2, -1, 1),
		union(9999, 3, 4),
	}
}

func TestP2HistoryText(t *testing.T) {
	expect(t, impl.FormatEvents(genesisEvents()), genesis, "FormatEvents")
	expect(t, history(t, genesis), genesisEvents(), "ParseEvents")
	events, ok := impl.ParseEvents("")
	expect(t, ok && len(events) == 0, true, "the events of the empty text")
	expect(t, impl.FormatEvents(nil), "", "the text of no events")
	expect(t, impl.FormatEvents([]impl.Event{}), "", "the text of an empty list")
	words := "0 born born man - -\n0 born man woman - -\n1 born union man born man\n9 born parted woman union -\n9 union union man\n9 parted union man\n9 died died\n"
	_, ok = impl.ParseEvents(words)
	expect(t, ok, false, "a history of somebody who is not there")
	words = strings.Replace(words, "died died", "died parted", 1)
	expect(t, impl.FormatEvents(history(t, words)), words, "a history of persons who are named like events")
}

func TestP2HistoriesThatBuildNoFamily(t *testing.T) {
	for i := range genesisEvents() {
		for _, change := range []func(e *impl.Event){
			func(e *impl.Event) { e.Kind = 0 },
			func(e *impl.Event) { e.Kind = 5 },
			func(e *impl.Event) { e.Year = 10000 },
			func(e *impl.Event) { e.Year = -1 },
			func(e *impl.Event) { e.Name = "Adam" },
			func(e *impl.Event) { e.Sex = 3 },
			func(e *impl.Event) { e.A = 40 },
			func(e *impl.Event) { e.A = lowest },
			func(e *impl.Event) { e.B = highest },
		} {
			events := genesisEvents()
			change(&events[i])
			expect(t, impl.FormatEvents(events), "", "FormatEvents %v", events)
		}
	}
}

func TestP2HistoriesAreReadBack(t *testing.T) {
	eachHistory(t, 214, func(f impl.Family, events []impl.Event, year int) {
		text := impl.FormatEvents(events)
		expect(t, text, wantEventsText(events), "FormatEvents %v", events)
		got, ok := impl.ParseEvents(text)
		expect(t, ok && slices.Equal(got, events), true, "ParseEvents %q: %v, %v", text, got, ok)
	})
}

func checkNoHistory(t *testing.T, text string) {
	t.Helper()
	events, ok := impl.ParseEvents(text)
	expect(t, ok || len(events) > 0, false, "ParseEvents %.200q is %v, %v", text, events, ok)
}

func TestP2OtherHistoryTexts(t *testing.T) {
	const a, b, c = "0 born a man - -\n", "0 born b woman - -\n", "5 union a b\n"
	history(t, a+b+c+"6 parted a b\n6 died a\n")
	history(t, a+b+"1 born d man a b\n"+"2 born e woman a b\n")
	texts := []string{
		"\n", " ", "-", "0", "0 ", "0 born", "0 born a man - -", a + "\n", "\n" + a, a + b + c[:len(c)-1], a + "0", a + "5 died", "\n\n",
		"0 born a man - - \n", " 0 born a man - -\n", "0  born a man - -\n", "0 born  a man - -\n", "0 born a  man - -\n", "0 born a man  - -\n", "0 born a man - -\r\n", "0\tborn a man - -\n",
		"0 born a man -\n", "0 born a man - - -\n", "0 born a man\n", "0 born a\n", "0 born\n", "0\n", "born a man - -\n", "a man - -\n", "0 a man - -\n",
		"0 Born a man - -\n", "0 birth a man - -\n", "0 borns a man - -\n", "0 1 a man - -\n", "0  a man - -\n", "0 moved a man - -\n",
		"0 born a Man - -\n", "0 born a men - -\n", "0 born a 1 - -\n", "0 born a - - -\n", "0 born a  - -\n", "0 born man a - -\n", "0 born a man- -\n",
		"0 born A man - -\n", "0 born abcdefghijklm man - -\n", "0 born - man - -\n", "0 born  man - -\n", "0 born \xc3\xa9 man - -\n", "0 born a1 man - -\n",
		"00 born a man - -\n", "01 born a man - -\n", "+1 born a man - -\n", "-1 born a man - -\n", "- born a man - -\n", "-0 born a man - -\n", "10000 born a man - -\n", " born a man - -\n",
		"1e1 born a man - -\n", "0x1 born a man - -\n", "1_0 born a man - -\n", "٣ born a man - -\n", "1. born a man - -\n", "x born a man - -\n",
		"18446744073709551616 born a man - -\n", strings.Repeat("9", 1000) + " born a man - -\n", strings.Repeat("0", 1000) + " born a man - -\n",
		a + a, a + "0 born a woman - -\n", a + "1 born d man x -\n", a + "1 born d man 0 -\n", a + "1 born d man - a\n", b + "1 born d man b -\n", a + "1 born a man a -\n", a + "1 born d man d -\n",
		"1 born d man a -\n" + a, a + "0 born d man a -\n", "0 born d man a -\n" + a, a + "1 born d man a  \n", a + "1 born d man a\n", a + "1 born d man -1 -\n",
		c, a + c, b + c, a + c + b, c + a + b, a + b + c + c, a + b + "5 union b a\n", a + b + "5 union a -\n", a + b + "5 union - b\n", a + b + "5 union a\n", a + b + "5 union a b -\n", a + b + "5 union a x\n",
		a + b + "5 unions a b\n", a + b + "5 married a b\n", a + b + "5 union  b\n", a + b + "5 union a b 6\n", a + b + "5  a b\n", a + b + "5 union a b \n", a + b + "05 union a b\n", a + b + "-1 union a b\n",
		a + b + "5 union 0 1\n", a + b + "5 union a a\n", a + b + "5 union b b\n",
		a + b + "5 parted a b\n", a + b + c + "4 parted a b\n", a + b + c + "5 parted b a\n", a + b + c + "5 parted a\n", a + b + c + "5 parted a b -\n", a + b + c + "5 part a b\n", a + b + c + "5 parted a x\n",
		a + b + c + "6 parted a b\n6 parted a b\n", a + b + "5 parted a b\n" + c, a + b + c + "10000 parted a b\n", a + b + c + "- parted a b\n",
		a + "5 died\n", a + "5 died b\n", a + "5 died -\n", a + "5 died a -\n", a + "5 died a a\n", a + "5 died a\n5 died a\n", "0 died a\n" + a, a + "5 dead a\n", a + "5 died A\n", a + "5 died 0\n", a + "10000 died a\n", a + "- died a\n", a + "5 died \n",
		a + "5 died a\n7 born d man a -\n", b + "5 died b\n6 born d man - b\n", a + b + "4 died a\n" + c, a + b + c + "6 died b\n7 parted a b\n",
		a + "5 born b woman - -\n4 died a\n", "1 born b woman - -\n" + a, house, "man a - - 0 -\n",
	}
	for _, text := range texts {
		checkNoHistory(t, text)
	}
}

// TestP2ChangedHistoryTexts changes, removes and adds each byte of a text: what is still read is the text of what is read.
func TestP2ChangedHistoryTexts(t *testing.T) {
	read := 0
	eachChange(genesis, func(s string) {
		events, ok := impl.ParseEvents(s)
		if ok && (looseEventsText(events) != s || impl.FormatEvents(events) != s) {
			t.Errorf("ParseEvents accepts %q as %v", s, events)
		}
		if _, builds := wantBuilt(events); ok && !builds || !ok && len(events) > 0 {
			t.Errorf("ParseEvents %q is %v, %v", s, events, ok)
		}
		if ok {
			read++
		}
	})
	if read < 200 {
		t.Errorf("%d changed texts are read", read)
	}
}

// TestP2BrokenHistoryTexts: what would be the text of a history, if that built a family, is not read.
func TestP2BrokenHistoryTexts(t *testing.T) {
	r := newChance(215)
	count := map[bool]int{}
	for _, f := range eventFamilies(t, r, 12) {
		for range 20 {
			events := brokenHistory(r, wantEvents(f))
			if slices.ContainsFunc(events, func(e impl.Event) bool { return hasHiddenFields(e) }) {
				continue
			}
			got, ok := impl.ParseEvents(looseEventsText(events))
			_, want := wantBuilt(events)
			if ok != want || ok && !slices.Equal(got, events) || !ok && len(got) > 0 {
				t.Fatalf("the text of %v is read as %v, %v", events, got, ok)
			}
			count[ok]++
		}
	}
	if count[true] < 300 || count[false] < 300 {
		t.Errorf("read or not: %v", count)
	}
}

// hasHiddenFields reports whether an event has fields that its text does not show.
func hasHiddenFields(e impl.Event) bool {
	return e.Kind != 1 && (e.Name != "" || e.Sex != 0 || e.Kind == 4 && e.B != 0)
}

func TestP2LongHistoryTexts(t *testing.T) {
	for _, text := range []string{
		strings.Repeat("0 born a man - -\n", 100000),
		strings.Repeat("0 born a man x y\n", 300000),
		genesis + strings.Repeat("9999 union enos ada\n", 100000),
		genesis + strings.Repeat("9999 parted enos ada\n", 100000),
		genesis + strings.Repeat("9999 died ada\n", 100000),
		strings.Repeat(" ", 1000000),
		strings.Repeat("\n", 1000000),
		"0 born " + strings.Repeat("a", 1000000) + " man - -\n",
		"0 born a man" + strings.Repeat(" -", 1000000) + "\n",
	} {
		checkNoHistory(t, text)
	}
	full := impl.FormatEvents(wantEvents(fullFamily()))
	expect(t, len(history(t, full)), 200, "the longest history")
	checkNoHistory(t, full+"15 died "+fullFamily().People[0].Name+"\n")
}
