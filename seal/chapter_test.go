package seal_test

import (
	"encoding/hex"
	"testing"

	"treenail/api"
	"treenail/seal"
)

// The examples of the chapter: what is closed opens, and a letter with any byte of its Tag changed doesn't.
func TestExamples(t *testing.T) {
	s := thirtyBits(t)
	key, b := api.Nat{1024}, []byte("hello")
	l, err := seal.Close(s.x, key, b, api.Nat{9})
	if err != nil {
		t.Fatal(err)
	}
	got, err := seal.Open(s.x, api.Nat{5}, l)
	wantOpened(t, got, err, b, l)
	for i := range l.Tag {
		l.Tag[i]++
		got, err := seal.Open(s.x, api.Nat{5}, l)
		wantSealed(t, got, err, l)
		l.Tag[i]--
	}
}

// fromHex are bytes told in hexadecimal digits.
func fromHex(t *testing.T, text string) []byte {
	t.Helper()
	b, err := hex.DecodeString(text)
	if err != nil {
		t.Fatal(err)
	}
	return b
}

// P10.1, P10.2: letters that were worked out elsewhere, in groups of 2, 3 and 4 bytes.
func TestKnownLetters(t *testing.T) {
	least, some, more := least(t), small(t, 100547, 50273, api.Nat{4}), thirtyBits(t)
	nine := small(t, 100547, 50273, api.Nat{9})
	const forty = "forty bytes, so that the stream goes on."
	five, great, long := api.Nat{5}, api.Nat{447635161}, api.Nat{1, 1}
	for _, k := range []struct {
		s           *setting
		secret      api.Nat
		body        string
		r           api.Nat
		ofG         uint64
		hidden, tag string
	}{
		{least, five, "hello", api.Nat{9}, 349, "c1a967e08f", "3dfa1e56d953a0eaaff605dcc2397304156398f690f5853cf3bb6917d5ebef85"},
		{least, five, "", api.Nat{9}, 349, "", "b242216df99728df0e247b222e954ff77980bab72acf27a1506a0f134385ac94"},
		{least, nil, "hello", api.Nat{9}, 349, "394c428b2b", "92d975cc3d2987f2b1d69d9434012a80b7f6f3ec75ac045c1ea0c1e116c21dd5"},
		{least, five, "hello", nil, 1, "20f5bb69bf", "02d97e2dcd4c49cff0099247f781eba8fc31a6eb280e1fb60edc372e212acb0e"},
		{least, great, forty, long, 296, "3ff50e5af75b96444a4e645454287c96e1c541d74aff4c300204cedfd2862e33946a7a6be3196660", "56a77e084126a5d19df16222c54abae3e85e5e92e34af4ed0289d9e3f657ef45"},
		{some, five, "hello", api.Nat{9}, 61050, "e434e72ef9", "988334292a892ae0ed164f88ee724606bf1b4d81cf2c8e2169ad6c0ccd87e586"},
		{some, five, "", api.Nat{9}, 61050, "", "76d9b21b73545f135573d7388dc75882790e7783aa6fba9d1cee23cef44fbad7"},
		{some, nil, "hello", api.Nat{9}, 61050, "a1196867ed", "57fda309595713aeb4dd0124e095aa4810c79dda84ef9a869641cccf191d31d1"},
		{some, five, "hello", nil, 1, "3101a791c6", "43a671aaa2626d2da10304286a010d45b6b5a88fb415cbd7fb885ecbb9121b63"},
		{some, great, forty, long, 18589, "55c10c9e8a11561129b451acecc0657861ea556964c40fd4ee475c09d329e09af166eadaa0b13b38", "dc8d41de70dd84cefa4c628555d21b47881fd3837975c166ce30cb834eddd7e8"},
		{nine, five, "hello", api.Nat{9}, 12898, "8dc936c24a", "7a9bc986a0344b56c0e9e902627f272ff7b9071eecfbbc3968a6754b5ddb5e49"},
		{nine, nil, "hello", api.Nat{9}, 12898, "8ecaf90945", "cc55145f366d6d6845bc03f21cb7b6607a5babe755803671ecd209709eb00e6a"},
		{nine, great, forty, long, 44267, "6198a8d173883796cb49238966c0a6dc12d2b607ba70a2675dc3f2aa5c18d8b52b1a5d3127fcc0d0", "0a669fe561ec44ee382c1ae19145313c637e985e2a81f6f8c85945aaf58b0083"},
		{more, five, "hello", api.Nat{9}, 262144, "1bc5aa0224", "5eaeca3cfa2b3c986e9603e78c83980a96c21ed5b4b49f2159c17edd33454d1c"},
		{more, five, "", api.Nat{9}, 262144, "", "1c6cda2ad4c941205bc1a1feaba19dba712d9545dbda1b43ccc53b9368ef8b60"},
		{more, nil, "hello", api.Nat{9}, 262144, "c7bf91ca46", "1d8706e56db6c7d4af273758b857d67d0167570b8bed6b0e91f5dec242d68e37"},
		{more, five, "hello", nil, 1, "0750f2e416", "b946a8a3e110ce4b1ecff23ae75c91686f98a30b842b31a342d22c006a32c875"},
		{more, great, forty, long, 872977668, "49ccd4da34596c721206f4d1b056ecb2d31128fda17d5ef3f04391464b95a7e4b25447b7cab2896b", "9563726426a3e48e1da9813d2843a31847b8975558a5feb0f3f32d6383f08578"},
	} {
		want := api.Letter{R: api.Nat{k.ofG}, Body: fromHex(t, k.hidden), Tag: fromHex(t, k.tag)}
		l, err := seal.Close(k.s.x, k.s.base(k.secret), []byte(k.body), k.r)
		wantLetter(t, l, err, want, k.s.p, k.secret, k.body, k.r)
		got, err := seal.Open(k.s.x, k.secret, want)
		wantOpened(t, got, err, []byte(k.body), k.s.p, k.secret, want)
	}
}
