package cert_test

import (
	"bytes"
	"slices"
	"testing"

	"seisin/api"
	"seisin/cert"
)

// checkPut holds a form against the document's words; it answers it.
func checkPut(t *testing.T, what string, c api.Cert) []byte {
	t.Helper()
	want := formOf(c)
	if got := cert.Put(c); !bytes.Equal(got, want) {
		t.Fatalf("%s: %v is put as % x, not % x", what, c, got, want)
	}
	return want
}

// paths are of many lengths.
func paths() [][]api.Id {
	l := [][]api.Id{nil, {}, {{}}, {digest(1)}, {digest(1), digest(2)}, {digest(2), digest(1)}}
	for _, n := range []int{3, 31, 32, 33, 64, 255, 256, 257, 1000} {
		var path []api.Id
		for i := range n {
			path = append(path, digest(i))
		}
		l = append(l, path)
	}
	return l
}

// P11.2: Put

func TestPutByHand(t *testing.T) {
	a, b, x, y, z := digest(1), digest(2), digest(3), digest(4), digest(5)
	e := "\x01\x01" + "\x01\x02" + string(x[:]) + "\x01\x28" + "\x00" + "\x01\x07"
	h := "\x01\x02" + "\x02\x01\x2c" + "\x01\x07" + string(y[:]) + string(z[:])
	c := api.Cert{
		E:    api.Entry{Kind: 1, Shard: 2, Tx: x, Amount: 40, Epoch: 7},
		Path: []api.Id{a, b},
		H:    api.Header{Shard: 2, Height: 300, Epoch: 7, Prev: y, Root: z},
		Tag:  digest(6),
	}
	want := "\x01\x29" + e + "\x01\x02" + string(a[:]) + string(b[:]) + "\x01\x47" + h + string(c.Tag[:])
	if got := cert.Put(c); string(got) != want {
		t.Errorf("% x, not % x", got, want)
	}
	if got, errno := cert.Read([]byte(want)); errno != api.OK || !cert.Same(got, c) {
		t.Errorf("%v, %v", got, errno)
	}
	// Nothing is right of the zero certificate: two empty texts, no path, a tag of zeros.
	if got := cert.Put(api.Cert{}); !bytes.Equal(got, make([]byte, 3+32)) {
		t.Errorf("% x", got)
	}
}

func TestPutOfCertificates(t *testing.T) {
	for _, b := range blocks() {
		checkPut(t, "a block's", b.cert(all))
	}
	for _, path := range paths() {
		checkPut(t, "a path", with(func(c *api.Cert) { c.Path = path }))
		checkPut(t, "a path alone", api.Cert{Path: path})
	}
	for _, turn := range turns() {
		checkPut(t, "not right as a whole", with(turn))
	}
}

func TestPutOfWrongEntriesAndHeaders(t *testing.T) {
	for _, e := range wrongEntries() {
		c := with(func(c *api.Cert) { c.E = e })
		if b := checkPut(t, "a wrong entry", c); !bytes.HasPrefix(b, []byte{0, 1, 2}) {
			t.Errorf("%v is put as % x", e, b)
		}
		c.H = api.Header{}
		checkPut(t, "neither", c)
	}
	for _, h := range wrongHeaders() {
		checkPut(t, "a wrong header", with(func(c *api.Cert) { c.H = h }))
	}
}

// What is answered is new, and what is handed in isn't changed, nor read behind
// its length.
func TestPutSharesNothing(t *testing.T) {
	c := plain()
	whole := append(slices.Clone(c.Path), digest(31))
	was := slices.Clone(whole)
	c.Path = whole[:2]
	b := checkPut(t, "a path with room", c)
	got := cert.Put(c)
	for i := range got[:cap(got)] {
		got[:cap(got)][i] = 0xee
	}
	if !bytes.Equal(cert.Put(c), b) || !slices.Equal(whole, was) {
		t.Error("the form is shared")
	}
}

// P11.2: Same

// unlike are certificates that are unlike the plain one in one thing each.
func unlike() []api.Cert {
	var l []api.Cert
	for _, turn := range turns() {
		l = append(l, with(turn))
	}
	for _, path := range paths() {
		l = append(l, with(func(c *api.Cert) { c.Path = path }))
	}
	for bit := range 256 {
		l = append(l,
			with(func(c *api.Cert) { c.Tag = flipped(c.Tag, bit) }), with(func(c *api.Cert) { c.E.Tx = flipped(c.E.Tx, bit) }),
			with(func(c *api.Cert) { c.H.Prev = flipped(c.H.Prev, bit) }), with(func(c *api.Cert) { c.H.Root = flipped(c.H.Root, bit) }),
			with(func(c *api.Cert) { c.Path[0] = flipped(c.Path[0], bit) }), with(func(c *api.Cert) { c.Path[1] = flipped(c.Path[1], bit) }))
	}
	return l
}

func TestSameOfUnlikeOnes(t *testing.T) {
	c := plain()
	if !cert.Same(c, plain()) || !cert.Same(c, c) {
		t.Error("it isn't the same as itself")
	}
	for i, other := range unlike() {
		if cert.Same(c, other) || cert.Same(other, c) {
			t.Errorf("the one at %d is the same: %v", i, other)
		}
		if !cert.Same(other, other) {
			t.Errorf("%v isn't the same as itself", other)
		}
	}
	if cert.Same(c, api.Cert{}) || cert.Same(api.Cert{}, c) || !cert.Same(api.Cert{}, api.Cert{}) {
		t.Error("the zero certificate")
	}
}

// Same holds all parts against each other, also of certificates that aren't
// right and have one form.
func TestSameOfWrongOnes(t *testing.T) {
	c := plain()
	for _, e := range wrongEntries() {
		a, b := c, c
		a.E, b.E = e, e
		if !cert.Same(a, b) || cert.Same(a, c) {
			t.Errorf("%v", e)
		}
		b.E.Tx = flipped(b.E.Tx, 0)
		if cert.Same(a, b) || !bytes.Equal(cert.Put(a), cert.Put(b)) {
			t.Errorf("%v and another one", e)
		}
	}
	for _, h := range wrongHeaders() {
		a, b := c, c
		a.H, b.H = h, h
		if !cert.Same(a, b) || cert.Same(a, c) {
			t.Errorf("%v", h)
		}
		b.H.Prev = flipped(b.H.Prev, 0)
		if cert.Same(a, b) || !bytes.Equal(cert.Put(a), cert.Put(b)) {
			t.Errorf("%v and another one", h)
		}
	}
}

// Paths are the same by their digests, wherever these lie; none is the same as
// nil.
func TestSameOfPaths(t *testing.T) {
	l := paths()
	for i, a := range l {
		for j, b := range l {
			want := i == j || len(a) == 0 && len(b) == 0
			x, y := with(func(c *api.Cert) { c.Path = a }), with(func(c *api.Cert) { c.Path = slices.Clone(b) })
			if got := cert.Same(x, y); got != want {
				t.Errorf("paths of %d and %d: %v", len(a), len(b), got)
			}
		}
	}
	whole := append(plain().Path, digest(31))
	if !cert.Same(plain(), with(func(c *api.Cert) { c.Path = whole[:2] })) {
		t.Error("what lies behind a path is read")
	}
}

// Two that can be read have one form just if they are the same.
func TestOneFormIsOfOneCertificate(t *testing.T) {
	seen := map[string]api.Cert{}
	for _, c := range append(unlike(), plain()) {
		if !entryRight(c.E) || !headerRight(c.H) {
			continue
		}
		form := string(checkPut(t, "a form", c))
		if other, met := seen[form]; met && !cert.Same(c, other) {
			t.Errorf("%v and %v have one form", c, other)
		}
		seen[form] = c
	}
	if len(seen) < 1500 {
		t.Errorf("%d forms", len(seen))
	}
}
