package wire_test

import (
	"bytes"
	"encoding/hex"
	"reflect"
	"strings"
	"testing"

	"treenail/api"
	"treenail/wire"
)

// fromHex are bytes told in hexadecimal digits.
func fromHex(t *testing.T, text string) []byte {
	t.Helper()
	b, err := hex.DecodeString(strings.ReplaceAll(text, " ", ""))
	if err != nil {
		t.Fatal(err)
	}
	return b
}

// The examples of the chapter.
func TestExamples(t *testing.T) {
	b, err := wire.Message(api.Msg{Kind: 10})
	if want := fromHex(t, "0a 00 00 00 00 00 00 00 00 00 00 00"); err != nil || !bytes.Equal(b, want) {
		t.Errorf("%x, %v", b, err)
	}
	b, err = wire.Packet(api.Packet{From: 1, To: 2, Seq: 128, Ack: true})
	if want := fromHex(t, "01 02 80 01 01 00"); err != nil || !bytes.Equal(b, want) {
		t.Errorf("%x, %v", b, err)
	}
	k := messages()
	k.wantError(t, fromHex(t, "0a 00"), api.ErrForm)
	for n := range 20 {
		k.wantError(t, append(fromHex(t, "80 00"), make([]byte, n)...), api.ErrForm)
	}
}

// Messages that were written down by hand.
func TestKnownMessages(t *testing.T) {
	const six = "00 00 00 00 00 00 "
	for text, m := range map[string]api.Msg{
		"01 02 03 01 05 06 00 00 00 00 00 00":                           {Kind: 1, Group: 2, Layer: 3, Phase: 1, Step: 5, User: 6},
		"7f 80 01 ff 7f 80 80 01 00 00 00 00 00 00 00 00":               {Kind: 127, Group: 128, Layer: 16383, Phase: 16384},
		"80 80 80 80 80 80 80 80 40 00 00 00 00 00 01 00 00 00 00 00":   {Kind: 1 << 62, Ok: true},
		"ff ff ff ff ff ff ff ff 3f 00 00 00 00 00 00 00 00 00 00 00":   {Kind: 1<<62 - 1},
		six + "00 00 00 00 07 00":                                       {Share: api.Share{I: 7}},
		six + "00 00 00 00 00 01 08 07 06 05 04 03 02 01":               {Share: api.Share{V: api.Nat{0x0102030405060708}}},
		six + "00 00 00 00 00 02 00 00 00 00 00 00 00 00 01" + zeros(7): {Share: api.Share{V: api.Nat{0, 1}}},
		six + "00 01 00 00 00 00 00":                                    {Batch: [][]api.Pair{nil}},
		six + "00 02 00 01 00 00 00 00 00 00 00":                        {Batch: [][]api.Pair{nil, {{}}}},
		six + "00 01 01 01 09" + zeros(7) + "01 08" + zeros(7) + "01 07" + zeros(7) + "00 00 00 00": {
			Batch: [][]api.Pair{{{A: api.Nat{9}, B: api.Nat{8}, C: api.Nat{7}}}},
		},
		six + "00 00 02 01 01 05" + zeros(7) + "01 06" + zeros(7) + "00 00 00 00": {
			Proofs: [][]api.Proof{{{E: api.Nat{5}, Z: api.Nat{6}}}, nil},
		},
		six + "00 00 00 03 02 61 62 00 01 00 00 00": {Texts: [][]byte{[]byte("ab"), nil, {0}}},
	} {
		b, err := wire.Message(m)
		if want := fromHex(t, text); err != nil || !bytes.Equal(b, want) {
			t.Errorf("%x, %v, not %x", b, err, want)
		}
		if got, err := wire.ReadMessage(fromHex(t, text)); err != nil || !reflect.DeepEqual(got, m) {
			t.Errorf("%s: %+v, %v", text, got, err)
		}
	}
}

// zeros are n bytes 0, told in hexadecimal digits.
func zeros(n int) string { return strings.Repeat(" 00", n) + " " }

// Packets that were written down by hand.
func TestKnownPackets(t *testing.T) {
	for text, p := range map[string]api.Packet{
		"00 00 00 00 00":                         {},
		"05 80 02 ff 01 00 03 01 02 03":          {From: 5, To: 256, Seq: 255, Body: []byte{1, 2, 3}},
		"00 00 80 80 80 80 80 80 80 80 40 01 00": {Seq: 1 << 62, Ack: true},
	} {
		b, err := wire.Packet(p)
		if want := fromHex(t, text); err != nil || !bytes.Equal(b, want) {
			t.Errorf("%x, %v, not %x", b, err, want)
		}
		if got, err := wire.ReadPacket(fromHex(t, text)); err != nil || !reflect.DeepEqual(got, p) {
			t.Errorf("%s: %+v, %v", text, got, err)
		}
	}
}
