package name

import (
	"math/rand"
	"strings"
	"testing"

	"truchman/api"
)

// P9.1: names and steps.
func TestName(t *testing.T) {
	for s, want := range map[string]bool{
		"a": true, "-": true, "%": true, " ": true, "...": true, "..a": true, ".a": true, "\\": true, "\x01\xff\n": true, "é": true,
		strings.Repeat("x", 32): true, strings.Repeat("x", 33): false,
		"": false, ".": false, "..": false, "/": false, "a/": false, "/a": false, "a\x00": false, "\x00": false,
		strings.Repeat("x", 31) + "/": false, strings.Repeat("x", 31) + "\x00": false,
	} {
		if Name(s) != want {
			t.Errorf("Name(%q)", s)
		}
		if Step(s) != (want || s == "..") {
			t.Errorf("Step(%q)", s)
		}
	}
	for c := range 256 {
		if s := "a" + string([]byte{byte(c)}) + "b"; Name(s) != (c != 0 && c != '/') {
			t.Errorf("Name(%q)", s)
		}
	}
}

// P9.1: how many steps there are, or which text is none.
func TestCheck(t *testing.T) {
	eight := strings.Split("a b c d e f g h", " ")
	for _, c := range []struct {
		l []string
		n int
		e api.Errno
	}{
		{nil, 0, api.OK},
		{[]string{"a"}, 1, api.OK},
		{[]string{"..", "a", ".."}, 3, api.OK},
		{eight, 8, api.OK},
		{append(eight[:8:8], "i"), 8, api.ErrRange},
		{append([]string{""}, eight...), 8, api.ErrRange},
		{make([]string, 20), 8, api.ErrRange},
		{[]string{""}, 0, api.BadName},
		{[]string{"a", ".", "/"}, 1, api.BadName},
		{append(eight[:7:7], "a/b"), 7, api.BadName},
	} {
		if n, e := Check(c.l...); n != c.n || e != c.e {
			t.Errorf("%q: %d %d", c.l, n, e)
		}
	}
}

// P9.2: texts in print.
func TestPrint(t *testing.T) {
	for s, want := range map[string]string{
		"": "-", "-": "%2d", "--": "--", "-a": "-a", "a-": "a-", "a b": "a%20b", "%": "%25", "%2d": "%252d",
		"\x00": "%00", "\x1f": "%1f", " ": "%20", "!": "!", "~": "~", "\x7f": "%7f", "\xff": "%ff", "\xab\xcd": "%ab%cd", "a/b": "a/b", "\n": "%0a",
		strings.Repeat(" ", 100): strings.Repeat("%20", 100),
	} {
		if got := Print(s); got != want {
			t.Errorf("Print(%q): %q", s, got)
		}
		if got, e := Scan(want); got != s || e != api.OK {
			t.Errorf("Scan(%q): %q %d", want, got, e)
		}
	}
}

// P9.2: what is no text's print.
func TestScanErrors(t *testing.T) {
	for _, s := range []string{
		"", " ", "a b", "%", "%2", "a%", "a%2", "%%", "%%20", "%2D", "%AB", "%aB", "%zz", "%2g", "%g2", "% 2", "%61", "%21", "%7e", "%2d%2d", "a%2d", "%2da",
		"\x00", "\n", "\x7f", "\x80", "\xff", "a\x1f", "%-1", "%2/", "%\xff\xff",
	} {
		if got, e := Scan(s); got != "" || e != api.ErrForm {
			t.Errorf("Scan(%q): %q %d", s, got, e)
		}
	}
}

// P9.3: what is printed is scanned as it was; no two texts have one print; a print has no blanks.
func TestPrintedAndScanned(t *testing.T) {
	dice := rand.New(rand.NewSource(9))
	of := map[string]string{}
	for range 3000 {
		b := make([]byte, dice.Intn(4))
		for i := range b {
			b[i] = "\x00\x01 -%2dab\x7f\xff"[dice.Intn(11)]
		}
		s := string(b)
		p := Print(s)
		if got, e := Scan(p); got != s || e != api.OK {
			t.Fatalf("%q: %q %q %d", s, p, got, e)
		}
		if was, ok := of[p]; ok && was != s || p == "" || strings.ContainsAny(p, " \t\n\r\x00\v\f") {
			t.Fatalf("%q and %q: %q", was, s, p)
		}
		of[p] = s
	}
}

// P9.3: nothing but a print is scanned.
func TestScannedIsPrint(t *testing.T) {
	dice := rand.New(rand.NewSource(10))
	for range 20000 {
		b := make([]byte, dice.Intn(6))
		for i := range b {
			b[i] = "%%%0122def-gA "[dice.Intn(14)]
		}
		s := string(b)
		text, e := Scan(s)
		if (e == api.OK) != (Print(text) == s) || e != api.OK && (text != "" || e != api.ErrForm) {
			t.Fatalf("%q: %q %d", s, text, e)
		}
	}
}
