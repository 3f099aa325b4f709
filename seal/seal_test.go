package seal

import (
	"strings"
	"testing"
)

func TestSum(t *testing.T) {
	for _, c := range []struct {
		text string
		want int
	}{
		{"", 1}, {"a", 361}, {"\x00", 264}, {"\xff", 519},
		{"\x00\x00", 264*263 + 1 - 65521},
	} {
		if got := Sum(c.text); got != c.want {
			t.Errorf("Sum(%q) = %d, want %d", c.text, got, c.want)
		}
	}
}

func TestSumOfPartsIsThatOfTheWhole(t *testing.T) {
	want := Sum("some text")
	for _, parts := range [][]string{
		{"some", " ", "text"}, {"", "some text", ""}, {"s", "ome tex", "", "t"},
	} {
		if got := Sum(parts...); got != want {
			t.Errorf("Sum(%q) = %d, want %d", parts, got, want)
		}
	}
	if got := sumOn(Sum("some"), " ", "text"); got != want {
		t.Errorf("sumOn = %d, want %d", got, want)
	}
	if got := Sum(); got != 1 {
		t.Errorf("Sum of no parts = %d, want 1", got)
	}
}

func TestPlainUndoesBody(t *testing.T) {
	for _, plain := range []string{"", "a", "\x00\xff\x00", "a text of several words"} {
		body := Body("secret--", "nonc", "extra", plain)
		if len(body) != len(plain)+tagSize {
			t.Errorf("the body of %q has %d bytes", plain, len(body))
		}
		if got, ok := Plain("secret--", "nonc", "extra", body); got != plain || !ok {
			t.Errorf("Plain of the body of %q = %q, %t", plain, got, ok)
		}
	}
	for _, short := range []string{"", "x"} {
		if got, ok := Plain("secret--", "nonc", "extra", short); got != "" || ok {
			t.Errorf("Plain of %q = %q, %t", short, got, ok)
		}
	}
}

func TestPlainHoldsTheBoundsOfABody(t *testing.T) {
	for n, want := range map[int]bool{0: true, 4999: true, 5000: true, 5001: false, 60000: false} {
		plain := strings.Repeat("x", n)
		if got, ok := Plain("secret--", "nonc", "", Body("secret--", "nonc", "", plain)); ok != want || ok && got != plain {
			t.Errorf("a body of a plain text of %d bytes opens: %t", n, ok)
		}
	}
	if MinBody != 2 || MaxBody != 5002 {
		t.Errorf("a body has %d to %d bytes", MinBody, MaxBody)
	}
}
