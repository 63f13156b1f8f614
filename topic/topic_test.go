package topic_test

import (
	"math/rand"
	"regexp"
	"slices"
	"strings"
	"testing"

	"humpyard/api"
	"humpyard/topic"
)

// topicForm is how a topic's text looks, and where its fields stand.
var topicForm = regexp.MustCompile(`\Auagv/v2/([A-Za-z0-9_.:-]{1,16})/([A-Za-z0-9_.:-]{1,16})/(order|instantActions|state|connection|visualization)\z`)

var (
	rightKinds = []string{"order", "instantActions", "state", "connection", "visualization"}
	wrongKinds = []string{
		"", "x", "orders", "orde", "Order", "ORDER", "State", "STATE", "states", "stat", "instantactions", "InstantActions", "instantAction", "INSTANTACTIONS", "Connection", "CONNECTION", "connections", "Visualization", "VISUALIZATION", "visualisation", "factsheet",
		" order", "order ", "order\n", "order\x00", "\x00order", "order/", "/order", "state/x", "+", "#", "/", "orderstate", "order|state", "\u043erder", "\u017ftate", "\xff",
	}
)

// printed is what Print must answer.
func printed(x api.Topic) (string, api.Errno) {
	if !nameForm.MatchString(x.Maker) || !nameForm.MatchString(x.Serial) || !slices.Contains(rightKinds, x.Kind) {
		return "", 70
	}
	return strings.Join([]string{"uagv", "v2", x.Maker, x.Serial, x.Kind}, "/"), 0
}

// parsed is what Parse must answer.
func parsed(s string) (api.Topic, api.Errno) {
	found := topicForm.FindStringSubmatch(s)
	if found == nil {
		return api.Topic{}, 70
	}
	return api.Topic{Maker: found[1], Serial: found[2], Kind: found[3]}, 0
}

func wantPrint(t *testing.T, x api.Topic, want string, errno api.Errno) {
	t.Helper()
	if got, e := topic.Print(x); got != want || e != errno {
		t.Errorf("Print(%q): %q, %d; want %q, %d", x, short(got), e, want, errno)
	}
}

func checkPrint(t *testing.T, x api.Topic) {
	t.Helper()
	want, errno := printed(x)
	wantPrint(t, x, want, errno)
}

func wantParse(t *testing.T, s string, want api.Topic, errno api.Errno) {
	t.Helper()
	if got, e := topic.Parse(s); got != want || e != errno {
		t.Errorf("Parse(%q): %q, %d; want %q, %d", short(s), got, e, want, errno)
	}
}

func checkParse(t *testing.T, s string) {
	t.Helper()
	want, errno := parsed(s)
	wantParse(t, s, want, errno)
}

// T2

func TestErrno(t *testing.T) {
	if api.ErrTopic != 70 || api.OK != 0 {
		t.Error(api.ErrTopic, api.OK)
	}
}

// someTopics are topics, and their texts.
var someTopics = map[api.Topic]string{
	{Maker: "m", Serial: "v1", Kind: "state"}:                                 "uagv/v2/m/v1/state",
	{Maker: "m", Serial: "v1", Kind: "order"}:                                 "uagv/v2/m/v1/order",
	{Maker: "m", Serial: "v1", Kind: "instantActions"}:                        "uagv/v2/m/v1/instantActions",
	{Maker: "m", Serial: "v1", Kind: "connection"}:                            "uagv/v2/m/v1/connection",
	{Maker: "m", Serial: "v1", Kind: "visualization"}:                         "uagv/v2/m/v1/visualization",
	{Maker: "hump", Serial: "a", Kind: "order"}:                               "uagv/v2/hump/a/order",
	{Maker: "v1", Serial: "m", Kind: "state"}:                                 "uagv/v2/v1/m/state",
	{Maker: "uagv", Serial: "v2", Kind: "state"}:                              "uagv/v2/uagv/v2/state",
	{Maker: "order", Serial: "state", Kind: "connection"}:                     "uagv/v2/order/state/connection",
	{Maker: "..", Serial: "--", Kind: "order"}:                                "uagv/v2/../--/order",
	{Maker: "A_.:-9", Serial: ":", Kind: "state"}:                             "uagv/v2/A_.:-9/:/state",
	{Maker: "abcdefghijklmnop", Serial: "ABCDEFGHIJKLMNOP", Kind: "order"}:    "uagv/v2/abcdefghijklmnop/ABCDEFGHIJKLMNOP/order",
	{Maker: "0123456789012345", Serial: "0", Kind: "visualization"}:           "uagv/v2/0123456789012345/0/visualization",
	{Maker: "_", Serial: "________________", Kind: "instantActions"}:          "uagv/v2/_/________________/instantActions",
	{Maker: "abcdefghijklmno", Serial: "abcdefghijklmno", Kind: "connection"}: "uagv/v2/abcdefghijklmno/abcdefghijklmno/connection",
}

func TestTopicTable(t *testing.T) {
	for x, s := range someTopics {
		wantPrint(t, x, s, api.OK)
		wantParse(t, s, x, api.OK)
	}
}

// TestPrintEach: names and kinds, right ones and wrong ones, each with each.
func TestPrintEach(t *testing.T) {
	all := slices.Concat(rightNames, wrongNames)
	for _, name := range all {
		for _, kind := range slices.Concat(rightKinds, wrongKinds) {
			checkPrint(t, api.Topic{Maker: name, Serial: "v1", Kind: kind})
			checkPrint(t, api.Topic{Maker: "m", Serial: name, Kind: kind})
		}
		for _, other := range all {
			checkPrint(t, api.Topic{Maker: name, Serial: other, Kind: "state"})
		}
	}
}

func TestPrintWrong(t *testing.T) {
	wantPrint(t, api.Topic{}, "", api.ErrTopic)
	wantPrint(t, api.Topic{Maker: "m", Serial: "v1"}, "", api.ErrTopic)
	wantPrint(t, api.Topic{Maker: "m", Kind: "state"}, "", api.ErrTopic)
	wantPrint(t, api.Topic{Serial: "v1", Kind: "state"}, "", api.ErrTopic)
	for _, name := range wrongNames {
		wantPrint(t, api.Topic{Maker: name, Serial: "v1", Kind: "state"}, "", api.ErrTopic)
		wantPrint(t, api.Topic{Maker: "m", Serial: name, Kind: "state"}, "", api.ErrTopic)
		wantPrint(t, api.Topic{Maker: name, Serial: name, Kind: name}, "", api.ErrTopic)
	}
	for _, kind := range wrongKinds {
		wantPrint(t, api.Topic{Maker: "m", Serial: "v1", Kind: kind}, "", api.ErrTopic)
	}
}

func TestParseWrong(t *testing.T) {
	for _, s := range []string{
		"", "/", "//", "////", "m", "state", "uagv", "uagv/", "uagv/v2", "uagv/v2/",
		// another start
		"m/v1/state", "/m/v1/state", "v2/m/v1/state", "uagv/m/v1/state", "uagv/v1/m/v1/state", "uagv/v3/m/v1/state", "uagv/V2/m/v1/state", "UAGV/v2/m/v1/state", "Uagv/v2/m/v1/state", "uagv/v2m/v1/state", "uagvv2/m/v1/state", "uagv/v2.0/m/v1/state", "agv/v2/m/v1/state", "xuagv/v2/m/v1/state",
		"/uagv/v2/m/v1/state", " uagv/v2/m/v1/state", "\x00uagv/v2/m/v1/state", "\ufeffuagv/v2/m/v1/state", "uagv//v2/m/v1/state", "uagv/v2//m/v1/state", "uagv\\v2\\m\\v1\\state", "v2/uagv/m/v1/state", "+/v2/m/v1/state", "uagv/+/m/v1/state", "uagv/v2/uagv/v2/m/v1/state",
		// a part too few
		"uagv/v2/m", "uagv/v2/m/", "uagv/v2/m/v1", "uagv/v2/m/v1/", "uagv/v2/m/state", "uagv/v2/v1/state", "uagv/v2/state", "uagv/v2//state", "uagv/v2///state",
		// a part too many, or more
		"uagv/v2/m/v1/state/x", "uagv/v2/m/v1/state/", "uagv/v2/m/v1/state//", "uagv/v2/m/v1/state/state", "uagv/v2/m/v1/x/state", "uagv/v2/m/x/v1/state", "uagv/v2/m//v1/state", "uagv/v2/m/v1//state", "uagv/v2/m/v1/state/+", "uagv/v2/m/v1/state/#", "uagv/v2/m/v1/order/state", "uagv/v2/m/v1/state/uagv/v2/m/v1/state",
		// an empty part
		"uagv/v2//v1/state", "uagv/v2/m//state", "uagv/v2/m/v1/", "uagv/v2///", "uagv/v2//v1/", "//m/v1/state", "/v2/m/v1/state",
		// filters
		"uagv/v2/+/v1/state", "uagv/v2/m/+/state", "uagv/v2/m/v1/+", "uagv/v2/m/v1/#", "uagv/v2/m/#", "uagv/v2/#", "#", "+",
		// bytes beside
		"uagv/v2/m/v1/state ", "uagv/v2/m/v1/state\n", "uagv/v2/m/v1/state\x00", "uagv/v2/m/v1/\nstate", "uagv/v2/m /v1/state", "uagv/v2/ m/v1/state", "uagv/v2/m/v\x001/state", "uagv/v2/m/v\xff/state", "uagv/v2/é/v1/state", "uagv/v2/m/é/state", "uagv/v2/m/v1/stat\u00e9", "uagv/v2/m/v1/state#e40c292c",
	} {
		wantParse(t, s, api.Topic{}, api.ErrTopic)
	}
	for _, kind := range wrongKinds {
		wantParse(t, "uagv/v2/m/v1/"+kind, api.Topic{}, api.ErrTopic)
	}
	for _, name := range wrongNames {
		wantParse(t, "uagv/v2/"+name+"/v1/state", api.Topic{}, api.ErrTopic)
		wantParse(t, "uagv/v2/m/"+name+"/state", api.Topic{}, api.ErrTopic)
		wantParse(t, "uagv/v2/m/v1/"+name, api.Topic{}, api.ErrTopic)
	}
}

// TestParseLong: many parts, and long ones, are refused, and soon.
func TestParseLong(t *testing.T) {
	for _, s := range []string{
		strings.Repeat("/", 1<<22), strings.Repeat("a/", 1<<21), "uagv/v2/m/v1/state" + strings.Repeat("/", 1<<22), "uagv/v2/" + strings.Repeat("m", 1<<22) + "/v1/state", "uagv/v2/m/v1/" + strings.Repeat("state", 1<<20), strings.Repeat("uagv/v2/", 1<<19) + "m/v1/state",
	} {
		wantParse(t, s, api.Topic{}, api.ErrTopic)
	}
}

// TestParseNear: a topic's text with a byte less, more or other, at each place.
func TestParseNear(t *testing.T) {
	for _, s := range someTopics {
		for at := range len(s) + 1 {
			checkParse(t, s[:at])
			checkParse(t, s[at:])
			checkParse(t, s[:at]+"/"+s[at:])
			for b := range 256 {
				c := string([]byte{byte(b)})
				checkParse(t, s[:at]+c+s[at:])
				if at < len(s) {
					checkParse(t, s[:at]+c+s[at+1:])
				}
			}
			if at < len(s) {
				checkParse(t, s[:at]+s[at+1:])
				checkParse(t, s[:at]+strings.ToUpper(s[at:]))
			}
		}
	}
}

// TestParseParts: texts of all parts, each with each.
func TestParseParts(t *testing.T) {
	some := []string{"uagv", "v2", "m", "state", "order", "", "+", "#", "State", "abcdefghijklmnop", "abcdefghijklmnopq"}
	texts, right := some, 0
	for size := range 5 {
		var longer []string
		for _, s := range texts {
			checkParse(t, s)
			if _, errno := topic.Parse(s); errno == api.OK {
				right++
			}
			if size < 4 {
				for _, part := range some {
					longer = append(longer, s+"/"+part)
				}
			}
		}
		texts = longer
	}
	if right != 7*7*2 {
		t.Errorf("%d texts are topics", right)
	}
}

// anyTopic is a topic by chance: most have names and a kind as they may be.
func anyTopic(chance *rand.Rand) api.Topic {
	field := func(right, wrong []string) string {
		switch chance.Intn(10) {
		case 0:
			return wrong[chance.Intn(len(wrong))]
		case 1:
			return anyName(chance)
		}
		return right[chance.Intn(len(right))]
	}
	return api.Topic{Maker: field(rightNames, wrongNames), Serial: field(rightNames, wrongNames), Kind: field(rightKinds, wrongKinds)}
}

func TestTopicMany(t *testing.T) {
	chance := rand.New(rand.NewSource(2))
	for range 50000 {
		x := anyTopic(chance)
		checkPrint(t, x)
		checkParse(t, strings.Join([]string{"uagv", "v2", x.Maker, x.Serial, x.Kind}, "/"))
	}
}

// T4

// TestParseUndoesPrint: a topic that is printed is parsed again.
func TestParseUndoesPrint(t *testing.T) {
	chance := rand.New(rand.NewSource(3))
	undone := 0
	for range 50000 {
		x := anyTopic(chance)
		s, errno := topic.Print(x)
		if errno != api.OK {
			continue
		}
		wantParse(t, s, x, api.OK)
		undone++
	}
	if undone < 10000 {
		t.Errorf("%d topics were printed", undone)
	}
}

// TestPrintUndoesParse: a text that is parsed is printed again.
func TestPrintUndoesParse(t *testing.T) {
	chance := rand.New(rand.NewSource(4))
	undone := 0
	for range 50000 {
		x := anyTopic(chance)
		s := []byte("uagv/v2/" + x.Maker + "/" + x.Serial + "/" + x.Kind)
		if chance.Intn(2) == 0 {
			s[chance.Intn(len(s))] = byte(chance.Intn(256))
		}
		y, errno := topic.Parse(string(s))
		if errno != api.OK {
			continue
		}
		wantPrint(t, y, string(s), api.OK)
		undone++
	}
	if undone < 10000 {
		t.Errorf("%d texts were parsed", undone)
	}
}
