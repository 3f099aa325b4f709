package coffer

import (
	"crypto/sha256"
	"encoding/hex"
	"strings"
	"testing"
	"unsafe"

	"coffer/api"
)

const (
	secret = "01234567"
	nonce  = "abcd"
)

// steps is a text of n bytes that go through many values.
func steps(n, step int) string {
	b := make([]byte, n)
	for i := range b {
		b[i] = byte(i * step)
	}
	return string(b)
}

func mustSeal(t *testing.T, secret, nonce, extra, plain string) string {
	t.Helper()
	body, e := Seal(secret, nonce, extra, plain)
	if e != api.OK {
		t.Fatalf("Seal(%q, %q, %.20q, %.20q): error %d", secret, nonce, extra, plain, e)
	}
	return body
}

func wantSealError(t *testing.T, secret, nonce, extra, plain string, want api.Errno) {
	t.Helper()
	if body, e := Seal(secret, nonce, extra, plain); body != "" || e != want {
		t.Errorf("Seal(%.20q, %.20q, %.20q, %.20q) = %.20q, %d, want error %d", secret, nonce, extra, plain, body, e, want)
	}
}

func wantOpenError(t *testing.T, secret, nonce, extra, body string, want api.Errno) {
	t.Helper()
	if plain, e := Open(secret, nonce, extra, body); plain != "" || e != want {
		t.Errorf("Open(%.20q, %.20q, %.20q, %.20q) = %.20q, %d, want error %d", secret, nonce, extra, body, plain, e, want)
	}
}

func wantOpen(t *testing.T, secret, nonce, extra, body, want string) {
	t.Helper()
	if plain, e := Open(secret, nonce, extra, body); plain != want || e != api.OK {
		t.Errorf("Open(%.20q, %.20q, %.20q, %.20q) = %.20q, %d, want %.20q", secret, nonce, extra, body, plain, e, want)
	}
}

// The bodies here were worked out from the document by another program.
func TestP3P4KnownBodies(t *testing.T) {
	for _, c := range []struct{ secret, nonce, extra, plain, body string }{
		{"secret--", "nonc", "", "", "b20d"},
		{"secret--", "nonc", "", "a", "9a4b13"},
		{"secret--", "nonc", "x", "", "6921"},
		{secret, nonce, "extra", "hello, coffer", "e5f1f7cec69c97ddaaaab5bf9383c2"},
		{strings.Repeat("\x00", 8), strings.Repeat("\x00", 4), "\x00", "\x00\x00\x00\x00", "aeb5bcc34dfa"},
		{strings.Repeat("\xff", 8), strings.Repeat("\xff", 4), "\xff\xff\xff", "\xff\x00\xff\x80", "1ee810760118"},
	} {
		body := mustSeal(t, c.secret, c.nonce, c.extra, c.plain)
		if hex.EncodeToString([]byte(body)) != c.body {
			t.Errorf("P3: Seal(%q, %q, %q, %q) = %x, want %s", c.secret, c.nonce, c.extra, c.plain, body, c.body)
		}
		known, err := hex.DecodeString(c.body)
		if err != nil {
			t.Fatal(err)
		}
		wantOpen(t, c.secret, c.nonce, c.extra, string(known), c.plain)
	}
}

func TestP3P4GreatestTexts(t *testing.T) {
	extra, plain := steps(5000, 11), steps(5000, 7)
	body := mustSeal(t, secret, nonce, extra, plain)
	if len(body) != 5002 || body[254:260] != "\x7c\x6c\x8e\x92\x92\xb6" || body[4996:] != "\xd7\xf1\xf3\xd1\xf0\xb2" {
		t.Errorf("P3: the greatest body: %d bytes, %x .. %x", len(body), body[254:260], body[4996:])
	}
	const want = "148d5bb37766dcd423f7a499df801eb3ee197b4541d2eddbc53dca126d55eca9"
	if sum := sha256.Sum256([]byte(body)); hex.EncodeToString(sum[:]) != want {
		t.Errorf("P3: the greatest body is another one")
	}
	wantOpen(t, secret, nonce, extra, body, plain)
}

func TestP3P4EveryLengthComesBack(t *testing.T) {
	for _, n := range []int{0, 1, 2, 3, 255, 256, 257, 4999, 5000} {
		extra, plain := steps(5000-n, 3), steps(n, 5)
		body := mustSeal(t, secret, nonce, extra, plain)
		if len(body) != n+2 {
			t.Errorf("P3: a plain text of %d bytes has a body of %d", n, len(body))
		}
		wantOpen(t, secret, nonce, extra, body, plain)
	}
}

func TestP3P4LengthsOfSecretsAndNonces(t *testing.T) {
	for _, n := range []int{0, 1, 7, 9, 16, 264, 65544} {
		wantSealError(t, steps(n, 1), nonce, "", "xx", api.ErrKey)
		wantOpenError(t, steps(n, 1), nonce, "", "xx", api.ErrKey)
	}
	for _, n := range []int{0, 1, 3, 5, 8, 260, 65540} {
		wantSealError(t, secret, steps(n, 1), "", "xx", api.ErrNonce)
		wantOpenError(t, secret, steps(n, 1), "", "xx", api.ErrNonce)
	}
	// Lengths are counted in bytes, not in letters.
	wantSealError(t, strings.Repeat("é", 8), nonce, "", "", api.ErrKey)
	wantSealError(t, secret, strings.Repeat("é", 4), "", "", api.ErrNonce)
	mustSeal(t, strings.Repeat("é", 4), strings.Repeat("é", 2), "", "")
}

func TestP3P4TooLong(t *testing.T) {
	for _, n := range []int{5001, 5002, 5003, 65536, 70000, 9000000} {
		wantSealError(t, secret, nonce, steps(n, 1), "", api.ErrLong)
		wantSealError(t, secret, nonce, "", steps(n, 1), api.ErrLong)
		wantOpenError(t, secret, nonce, steps(n, 1), mustSeal(t, secret, nonce, "", ""), api.ErrLong)
	}
	for _, n := range []int{5003, 5004, 65538, 9000000} {
		wantOpenError(t, secret, nonce, "", steps(n, 1), api.ErrLong)
	}
	// Bodies of up to 5,002 bytes are not too long, be they none.
	for _, n := range []int{4999, 5000, 5001, 5002} {
		body := mustSeal(t, secret, nonce, "", steps(n-2, 1))
		wantOpen(t, secret, nonce, "", body, steps(n-2, 1))
		wantOpenError(t, secret, nonce, "", flip(body, n/2, 1), api.ErrSeal)
	}
}

func TestP1FirstErrorNamed(t *testing.T) {
	long := steps(5003, 1)
	for _, c := range []struct {
		secret, nonce, extra, text string
		want                       api.Errno
	}{
		{"short", "n", long, long, api.ErrKey},
		{"short", nonce, long, "x", api.ErrKey},
		{"short", "n", "", "x", api.ErrKey},
		{"", "", "", "", api.ErrKey},
		{secret, "n", long, long, api.ErrNonce},
		{secret, "n", "", long, api.ErrNonce},
		{secret, "", "", "", api.ErrNonce},
		{secret, nonce, long, long, api.ErrLong},
		{secret, nonce, long, "x", api.ErrLong},
		{secret, nonce, long, "", api.ErrLong},
	} {
		wantSealError(t, c.secret, c.nonce, c.extra, c.text, c.want)
		wantOpenError(t, c.secret, c.nonce, c.extra, c.text, c.want)
	}
}

func TestP4ShortBodies(t *testing.T) {
	wantOpenError(t, secret, nonce, "", "", api.ErrSeal)
	for b := range 256 {
		wantOpenError(t, secret, nonce, "", string([]byte{byte(b)}), api.ErrSeal)
	}
	empty := mustSeal(t, secret, nonce, "", "")
	for n := range 65536 {
		body := string([]byte{byte(n), byte(n >> 8)})
		if body == empty {
			wantOpen(t, secret, nonce, "", body, "")
			continue
		}
		wantOpenError(t, secret, nonce, "", body, api.ErrSeal)
	}
}

// flip is the text with some bits of one byte turned over.
func flip(text string, i int, bits byte) string {
	b := []byte(text)
	b[i] ^= bits
	return string(b)
}

// One byte that is another one always changes a sum, as Prime is prime and
// greater than a byte: so none of these can open by chance.
func TestP4OneByteTouched(t *testing.T) {
	const extra, plain = "an extra text", "a plain text"
	body := mustSeal(t, secret, nonce, extra, plain)
	for bits := 1; bits < 256; bits++ {
		for i := range len(body) {
			wantOpenError(t, secret, nonce, extra, flip(body, i, byte(bits)), api.ErrSeal)
		}
		for i := range len(secret) {
			wantOpenError(t, flip(secret, i, byte(bits)), nonce, extra, body, api.ErrSeal)
		}
		for i := range len(nonce) {
			wantOpenError(t, secret, flip(nonce, i, byte(bits)), extra, body, api.ErrSeal)
		}
		for i := range len(extra) {
			wantOpenError(t, secret, nonce, flip(extra, i, byte(bits)), body, api.ErrSeal)
		}
	}
}

func TestP4CutLengthenedOrMoved(t *testing.T) {
	const extra, plain = "an extra text", "a plain text"
	body := mustSeal(t, secret, nonce, extra, plain)
	for i := range len(body) {
		wantOpenError(t, secret, nonce, extra, body[:i], api.ErrSeal)
		if i > 0 {
			wantOpenError(t, secret, nonce, extra, body[i:], api.ErrSeal)
		}
	}
	for _, other := range []string{body + "\x00", "\x00" + body, body + body, plain} {
		wantOpenError(t, secret, nonce, extra, other, api.ErrSeal)
	}
	for _, other := range []string{"", "an extra tex", "an extra text\x00", "\x00an extra text"} {
		wantOpenError(t, secret, nonce, other, body, api.ErrSeal)
	}
	// What stands behind the extra text must not pass from it to the cipher or back.
	wantOpenError(t, secret, nonce, extra+body[:1], body[1:], api.ErrSeal)
	wantOpenError(t, secret, nonce, extra[:len(extra)-1], extra[len(extra)-1:]+body, api.ErrSeal)
}

// aliased is a string over bytes that can be written into behind its back.
func aliased(text string) ([]byte, string) {
	room := append(make([]byte, 0, len(text)+8), text...)
	return room, unsafe.String(unsafe.SliceData(room), len(room))
}

func TestP2ArgumentsStayAndAnswersAreNew(t *testing.T) {
	texts := []string{secret, nonce, "extra", "plain text"}
	body := mustSeal(t, texts[0], texts[1], texts[2], texts[3])
	for name, call := range map[string]struct {
		last, want string
		run        func(secret, nonce, extra, text string) (string, api.Errno)
	}{
		"Seal": {texts[3], body, Seal},
		"Open": {body, texts[3], Open},
	} {
		handed := []string{texts[0], texts[1], texts[2], call.last}
		rooms, args := make([][]byte, 4), make([]string, 4)
		for i := range handed {
			rooms[i], args[i] = aliased(handed[i])
		}
		got, e := call.run(args[0], args[1], args[2], args[3])
		for i, room := range rooms {
			if string(room) != handed[i] || string(room[len(room):cap(room)]) != strings.Repeat("\x00", cap(room)-len(room)) {
				t.Errorf("P2: %s wrote into argument %d", name, i)
			}
			clear(room[:cap(room)])
		}
		if got != call.want || e != api.OK {
			t.Errorf("P2: %s = %q, %d after its arguments were written over, want %q", name, got, e, call.want)
		}
		if again, e := call.run(handed[0], handed[1], handed[2], handed[3]); again != call.want || e != api.OK {
			t.Errorf("P2: %s = %q, %d when called again, want %q", name, again, e, call.want)
		}
	}
}

func TestP2EarlierCallsChangeNoAnswer(t *testing.T) {
	first := mustSeal(t, secret, nonce, "extra", "plain")
	mustSeal(t, "another-", "none", "else", "text")
	wantOpenError(t, secret, nonce, "extra", "xx", api.ErrSeal)
	wantSealError(t, "", "", "", "", api.ErrKey)
	if again := mustSeal(t, secret, nonce, "extra", "plain"); again != first {
		t.Errorf("P2: Seal answered %q, then %q", first, again)
	}
	wantOpen(t, secret, nonce, "extra", first, "plain")
}

func FuzzP1P4OpenGivesWhatSealTakes(f *testing.F) {
	f.Add(secret, nonce, "extra", "plain")
	f.Add("", "", "", "")
	f.Add("\x00\x00\x00\x00\x00\x00\x00\x00", "\xff\xff\xff\xff", "\x80", "\xb2\x0d")
	f.Fuzz(func(t *testing.T, secret, nonce, extra, text string) {
		if body, e := Seal(secret, nonce, extra, text); e == api.OK {
			wantOpen(t, secret, nonce, extra, body, text)
		} else if body != "" {
			t.Errorf("P1: Seal tells a body with error %d", e)
		}
		if plain, e := Open(secret, nonce, extra, text); e == api.OK {
			if mustSeal(t, secret, nonce, extra, plain) != text {
				t.Errorf("P4: Open takes %q, which is no body", text)
			}
		} else if plain != "" {
			t.Errorf("P1: Open tells a plain text with error %d", e)
		}
	})
}
