package console_test

import (
	"math/rand"
	"regexp"
	"slices"
	"strings"
	"testing"

	"fulmar/api"
	"fulmar/console"
)

// session: lines, each with what should be answered to it: line => answer.
func session(t *testing.T, what string, l ...string) {
	t.Helper()
	var lines, want []string
	for _, s := range l {
		line, answer, _ := strings.Cut(s, " => ")
		lines, want = append(lines, line), append(want, answer)
	}
	got, err := console.Play(strings.Join(lines, "\n"))
	if err != nil || len(got) != len(want) {
		t.Fatalf("%s: %q, %v, not %q", what, got, err, want)
	}
	for i, line := range lines {
		if got[i] != want[i] {
			t.Errorf("%s: line %d, %q: %q, not %q", what, i, line, got[i], want[i])
		}
	}
}

// Q1: the document's session.
func TestSessionOfTheDocument(t *testing.T) {
	session(t, "the document's",
		"fly => 0",
		"step 100 0 20 0 0 665 100 0 60 => ok",
		"fly => 60",
		"at 0 => 28 0 0 3 3 3 3",
		"at 59 => 3662 0 0 3 3 3 3",
		"edges => 28 3662 0 0",
		"fault 5 1 0 2 3000 => ok",
		"fault 20 4 1 0 100 => ok",
		"fly => 60",
		"at 10 => 512 0 0 2 3 3 3",
		"at 40 => 2453 135 1 2 3 3 2",
		"edges => 28 3595 0 261",
		"set 0 rate 101 => error 1",
		"set 0 rate 10 => error 3",
		"fly => error 3",
		"set 0 push 30 => error 3",
		"at 60 => error 1",
		"clear => ok",
		"edges => error 5",
		"go => bad",
	)
}

// Q1: so many bytes a text may have, whatever they are.
func TestLengthOfAText(t *testing.T) {
	for _, k := range []struct {
		what, piece string
	}{
		{"one long line", "x"}, {"empty lines", "\n"}, {"lines", "at 0\n"}, {"blanks", " "}, {"runes of two bytes", "\u00e9"}, {"no runes", "\xff"},
	} {
		long := strings.Repeat(k.piece, 5000)
		for _, n := range []int{3999, 4000} {
			text := long[:n]
			want := strings.Count(text, "\n")
			if text[n-1] != '\n' {
				want++
			}
			if got, err := console.Play(text); err != nil || len(got) != want {
				t.Errorf("%s, %d bytes: %d answers, %v, not %d", k.what, n, len(got), err, want)
			}
		}
		for _, n := range []int{4001, 4002, 5000} {
			if got, err := console.Play(long[:n]); err != api.ErrLimit || len(got) != 0 {
				t.Errorf("%s, %d bytes: %d answers, %v", k.what, n, len(got), err)
			}
		}
	}
	// 2001 runes are more than 4000 bytes.
	if got, err := console.Play(strings.Repeat("\u00e9", 2001)); err != api.ErrLimit || len(got) != 0 {
		t.Errorf("2001 runes: %d answers, %v", len(got), err)
	}
}

// Q1: how lines are parted.
func TestLinesOfAText(t *testing.T) {
	for _, k := range []struct {
		text string
		want []string
	}{
		{"", []string{"bad"}},
		{"\n", []string{"bad"}},
		{"\n\n", []string{"bad", "bad"}},
		{"\n\n\n", []string{"bad", "bad", "bad"}},
		{"fly", []string{"0"}},
		{"fly\n", []string{"0"}},
		{"fly\n\n", []string{"0", "bad"}},
		{"\nfly", []string{"bad", "0"}},
		{"\nfly\n", []string{"bad", "0"}},
		{"fly\nclear", []string{"0", "ok"}},
		{"fly\n\nclear\n", []string{"0", "bad", "ok"}},
		{"fly\r\nclear\r\n", []string{"bad", "bad"}},
		{"fly\rclear", []string{"bad"}},
		{"fly\n\rclear", []string{"0", "bad"}},
		{"fly\vclear\fclear", []string{"bad"}},
		{"fly\u2028clear", []string{"bad"}},
		{"fly\x00\nclear\x00", []string{"bad", "bad"}},
	} {
		if got, err := console.Play(k.text); err != nil || !slices.Equal(got, k.want) {
			t.Errorf("%q: %q, %v, not %q", k.text, got, err, k.want)
		}
	}
}

// good lines, one of each command, and a few more that are longer than others.
func good() []string {
	return []string{"set 0 lo -4000", "set 1 build 2", "fault 0 0 0 0 0", "step 0 0 0 0 0 0 0 0 1", "fly", "at 0", "edges", "clear"}
}

// Q1: words are parted by one blank, no more, no less, and nothing else.
func TestWordsOfALine(t *testing.T) {
	var wrong []string
	for _, line := range good() {
		words := strings.Split(line, " ")
		wrong = append(wrong, " "+line, line+" ", "  "+line, line+"  ", line+"\t", "\t"+line, line+"\u00a0", line+".", line+" 0", line+" x")
		for i := range words[1:] {
			ahead, behind := strings.Join(words[:i+1], " "), strings.Join(words[i+1:], " ")
			for _, between := range []string{"", "  ", "   ", "\t", " \t", "\t ", ",", ", ", "\u00a0", "\u3000"} {
				wrong = append(wrong, ahead+between+behind)
			}
			wrong = append(wrong, ahead)
		}
	}
	for _, line := range wrong {
		session(t, "words", line+" => bad")
	}
}

// Q1: the names are these, to the letter.
func TestNamesOfCommands(t *testing.T) {
	var wrong []string
	for _, line := range good() {
		name, rest, _ := strings.Cut(line, " ")
		for _, x := range []string{strings.ToUpper(name), strings.ToUpper(name[:1]) + name[1:], name[:len(name)-1], name + "s", name + name, "", "0", "-", "bad", "ok", "what"} {
			if rest != "" {
				x += " " + rest
			}
			wrong = append(wrong, x)
		}
	}
	for _, line := range wrong {
		session(t, "names", line+" => bad")
	}
}

// Words that are numbers, and words that are none.
var (
	numbers   = []string{"0", "1", "-1", "9", "10", "-10", "100", "1000000000", "9999999999", "-9999999999", "-1000000000"}
	noNumbers = []string{
		"", "-", "--1", "+1", "+0", "-0", "00", "01", "-01", "-00", "007", "0000000000", "10000000000", "-10000000000", "99999999999",
		"1-", "1-1", "1.0", ".5", "1e3", "0x1", "1_000", "1,000", "x", "1x", "x1", "-x", "\u0661", "\uff11", "\u2212 1", "\u22121", "1\x00", "\xff", "18446744073709551617", "9223372036854775808",
	}
)

// Q1: what is a number, and what isn't. (A fault's Is is any one.)
func TestNumbers(t *testing.T) {
	for _, n := range numbers {
		session(t, "a number", "fault 0 0 0 0 "+n+" => ok", "fly => 0")
	}
	for _, n := range noNumbers {
		session(t, "no number", "fault 0 0 0 0 "+n+" => bad", "fly => 0")
	}
}

// Q1: where a number stands in a line, nothing else may.
func TestNumbersOfEachLine(t *testing.T) {
	for _, line := range good() {
		words := strings.Split(line, " ")
		for i := range words {
			if words[0] == "set" && i == 2 || i == 0 {
				continue
			}
			for _, n := range noNumbers {
				changed := slices.Clone(words)
				changed[i] = n
				session(t, "no number", strings.Join(changed, " ")+" => bad")
			}
		}
	}
}

// answers that there are.
var answers = regexp.MustCompile(`^(ok|bad|error [1-5]|0|[1-9][0-9]*|-?[0-9]+( -?[0-9]+){3}|-?[0-9]+ -?[0-9]+ [0-3]( [0-4]){4})$`)

// Z1: whatever a text is, each line has an answer, and the same each time.
func TestWildTexts(t *testing.T) {
	d := rand.New(rand.NewSource(61))
	pieces := append(append(good(), numbers...), noNumbers...)
	pieces = append(pieces, "\n", "\n", "\n", " ", " ", " ", " ", "set ", "fault ", "step ", "at ", "lo", "surfaces", "travel", "2", "3")
	for range 400 {
		text := ""
		for range d.Intn(60) {
			text += pieces[d.Intn(len(pieces))]
			if d.Intn(9) == 0 {
				text += string([]byte{byte(d.Intn(256))})
			}
		}
		got, err := console.Play(text)
		if err != nil || len(got) != strings.Count(strings.TrimSuffix(text, "\n"), "\n")+1 {
			t.Fatalf("%q: %q, %v", text, got, err)
		}
		for _, a := range got {
			if !answers.MatchString(a) {
				t.Errorf("%q: %q is no answer", text, a)
			}
		}
		if again, err := console.Play(text); err != nil || !slices.Equal(got, again) {
			t.Errorf("%q: %q, then %q, %v", text, got, again, err)
		}
	}
}
