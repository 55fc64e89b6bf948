package xmltok

import (
	"strconv"
	"strings"
	"testing"

	"pennant/api"
)

// numbersToTry are numbers up to a little above the last character: all near the edges, and some of the wide stretches.
func numbersToTry(see func(c int)) {
	for c := 0; c <= 0x110010; c++ {
		if c < 0x300 || c&0xFFF < 0x10 || c&0xFFF > 0xFEF || c > 0xD7F0 && c < 0xD810 || c%61 == 0 {
			see(c)
		}
	}
}

func fine(c int) bool {
	return c == 9 || c == 10 || c == 13 || c >= 0x20 && c <= 0xD7FF || c >= 0xE000 && c <= 0xFFFD || c >= 0x10000 && c <= 0x10FFFF
}

// P2.1: which characters are allowed.
func TestAllowedCharacters(t *testing.T) {
	numbersToTry(func(c int) {
		if c >= 0xD800 && c <= 0xDFFF || c > 0x10FFFF {
			return
		}
		want := string(rune(c))
		if c == 13 {
			want = "\n"
		}
		list, err := Tokens("<![CDATA[é" + string(rune(c)) + "]]>")
		n, at := api.Tell(err)
		if fine(c) && (err != nil || !same(list, []api.Tok{text(1, 1, "é"+want)})) || !fine(c) && (n != api.ErrChar || at != place(1, 11)) {
			t.Fatalf("%x: %+v, %v", c, list, err)
		}
	})
}

// P2.1: which numbers a reference may mean.
func TestReferredCharacters(t *testing.T) {
	numbersToTry(func(c int) {
		for _, ref := range []string{"&#" + strconv.Itoa(c) + ";", "&#x" + strconv.FormatInt(int64(c), 16) + ";"} {
			list, err := Tokens("é" + ref)
			n, at := api.Tell(err)
			if fine(c) && (err != nil || !same(list, []api.Tok{text(1, 1, "é"+string(rune(c)))})) || !fine(c) && (n != api.ErrRef || at != place(1, 2)) {
				t.Fatalf("%s: %+v, %v", ref, list, err)
			}
		}
	})
}

// P2.1: what no reference is.
func TestWrongReferences(t *testing.T) {
	for _, s := range []string{
		"&", "&;", "& ", "&a", "&lt", "&lt ;", "&LT;", "&Lt;", "&ltt;", "&nbsp;", "& lt;", "&l;", "&am", "&amp", "&quo;", "&apo", "&apos",
		"&#", "&#;", "&#x", "&#x;", "&#X41;", "&x41;", "&#65", "&#x41", "&#6 5;", "&# 65;", "&#65 ;", "&#-65;", "&#+65;", "&#6a;", "&#x4g;", "&#0x41;",
		"&#x+41;", "&#xx41;", "&#6_5;", "&#x4_1;", "&#6.0;", "&#1e2;", "&#\u0666;", "&#x\uff21;",
		"&#0;", "&#x0;", "&#1;", "&#8;", "&#11;", "&#12;", "&#14;", "&#16;", "&#31;", "&#x1F;", "&#x10;", "&#x13;", "&#xD800;", "&#xDFFF;", "&#55296;", "&#xFFFE;", "&#xFFFF;", "&#65535;", "&#x110000;", "&#1114112;",
		"&#4294967361;", "&#x100000041;", "&#18446744073709551681;", "&#x10000000000000041;", "&#" + strings.Repeat("9", 1000) + ";",
		"&&lt;", "&<", "&#<", "&]]>",
	} {
		refuses(t, s, api.ErrRef, 1, 1)
		refuses(t, "a\né"+s, api.ErrRef, 2, 2)
		refuses(t, "<a b='"+s+"'>", api.ErrRef, 1, 7)
		refuses(t, "<a b=\"&amp;\n"+s, api.ErrRef, 2, 1)
		refuses(t, "<?xml version='"+s+"'?>", api.ErrRef, 1, 16)
	}
}

// P2.1: bytes that aren't UTF-8, and characters that aren't allowed, the first of them, ahead of all but the length.
func TestWrongCharacters(t *testing.T) {
	for _, s := range []string{"\xff", "\xc0\x80", "\xed\xa0\x80", "\xf4\x90\x80\x80", "\xe2\x82", "\x80", "\xc3"} {
		refuses(t, s, api.ErrUTF, 1, 1)
		refuses(t, "<a>é\r\n€ "+s, api.ErrUTF, 2, 3)
		refuses(t, "<a & ]]> <!DOCTYPE"+s, api.ErrUTF, 1, 19)
		refuses(t, "<!--"+s+"\x00-->", api.ErrUTF, 1, 5)
		refuses(t, "<?a "+s, api.ErrUTF, 1, 5)
		refuses(t, "\x01"+s, api.ErrChar, 1, 1)
		refuses(t, s+"\x01", api.ErrUTF, 1, 1)
		refuses(t, "<![CDATA[\r\r\n"+s, api.ErrUTF, 3, 1)
	}
	for _, s := range []string{"\x00", "\x01", "\x08", "\x0b", "\x0c", "\x0e", "\x10", "\x13", "\x14", "\x1f", "\ufffe", "\uffff"} {
		refuses(t, s, api.ErrChar, 1, 1)
		refuses(t, "<a>é\r\n€ "+s, api.ErrChar, 2, 3)
		refuses(t, "<a & ]]> <!DOCTYPE"+s, api.ErrChar, 1, 19)
		refuses(t, "<!-- -- "+s+"-->", api.ErrChar, 1, 9)
		refuses(t, "<"+strings.Repeat("a", 65)+s, api.ErrChar, 1, 67)
		refuses(t, "&"+s, api.ErrChar, 1, 2)
	}
}

// P2.1: wrong declarations. What stands in their attributes as it may not is told there, all else at the <.
func TestWrongDeclarations(t *testing.T) {
	for _, s := range []string{
		"<?xml ?>", "<?xml  ?>", "<?xml ", "<?xml  \n", "<?xml ?", "<?xml >", "<?xml />", "<?xml ??>", "<?xml 5?>", "<?xml ='1.0'?>", "<?xml <a/>",
		"<?xml version='1.1'?>", "<?xml version='1'?>", "<?xml version=''?>", "<?xml version=' 1.0'?>", "<?xml version='1.0 '?>", "<?xml Version='1.0'?>", "<?xml VERSION='1.0'?>", "<?xml v='1.0'?>",
		"<?xml encoding='UTF-8'?>", "<?xml encoding='UTF-8' version='1.0'?>", "<?xml standalone='yes'?>", "<?xml standalone='yes' version='1.0'?>",
		"<?xml version='1.0' version='1.0'?>", "<?xml version='1.0' encoding='UTF-8' encoding='UTF-8'?>", "<?xml version='1.0' standalone='no' standalone='no'?>",
		"<?xml version='1.0' standalone='yes' encoding='UTF-8'?>",
		"<?xml version='1.0' encoding='UTF8'?>", "<?xml version='1.0' encoding='UTF-16'?>", "<?xml version='1.0' encoding=''?>", "<?xml version='1.0' encoding='ISO-8859-1'?>", "<?xml version='1.0' encoding='UTF-8 '?>", "<?xml version='1.0' Encoding='UTF-8'?>",
		"<?xml version='1.0' standalone='Yes'?>", "<?xml version='1.0' standalone='NO'?>", "<?xml version='1.0' standalone=''?>", "<?xml version='1.0' standalone='1'?>", "<?xml version='1.0' Standalone='yes'?>",
		"<?xml version='1.0' a='b'?>", "<?xml version='1.0' encoding='UTF-8' a='b'?>", "<?xml version='1.0' encoding='UTF-8' standalone='no' a='b'?>", "<?xml a='b' version='1.0'?>",
		"<?xml version='1.0'", "<?xml version='1.0' ", "<?xml version='1.0'?", "<?xml version='1.0'? >", "<?xml version='1.0'>", "<?xml version='1.0'/>", "<?xml version='1.0' 5?>", "<?xml version='1.0'5?>", "<?xml version='1.0' \"?>", "<?xml version='1.0'<a/>", "<?xml version='1.0'&?>",
		"<?xml version='1.0' encoding='UTF-8'", "<?xml version='1.0' encoding='UTF-8' standalone='yes' >", "<?xml version='1.0' encoding='UTF-8'?\n>",
	} {
		refuses(t, s, api.ErrMarkup, 1, 1)
	}
	for s, col := range map[string]int{
		"<?xml version": 14, "<?xml version ": 15, "<?xml version=": 15, "<?xml version= ": 16, "<?xml version='": 16, "<?xml version='1.0": 19, "<?xml v": 8, "<?xml é": 8,
		"<?xml version?>": 14, "<?xml version 1.0?>": 15, "<?xml version=1.0?>": 15, "<?xml version==": 15, "<?xml version='1.0\"?>": 22, "<?xml version='<'?>": 16, "<?xml version='1.0<": 19,
		"<?xml version='1.1' encoding?>": 29, "<?xml a='b' b>": 14, "<?xml v='1.0' b>": 16, "<?xml version='1.0' x": 22, "<?xml version='1.0' encoding='UTF-8' standalone=no?>": 49,
	} {
		refuses(t, s, api.ErrMarkup, 1, col)
	}
	refuses(t, "<?xml\nversion\n=\n1.0?>", api.ErrMarkup, 4, 1)
	refuses(t, "<?xml version='1.1' a='&b;'?>", api.ErrRef, 1, 24)
	refuses(t, "<?xml version='1.1' a='<'?>", api.ErrMarkup, 1, 24)
}

// P2.1: a declaration's attributes end at a value without a blank behind it, so that no ?> is behind them; in a tag what stands there is told itself.
func TestNoBlankBehindAValue(t *testing.T) {
	for _, ahead := range []string{
		"g=''", "a='b'", "version='1.0'", "version=\"1.0\"", "version='1.1'", "version='1.0' encoding='utf-8'", "version='1.0' encoding='utf-8 '", "\nversion\t=\n'1.0' encoding = \"UTF-8\" standalone='no'",
	} {
		for _, behind := range []string{
			"t", "x", "é", "_", ":", "encoding", "encoding=", "encoding=5", "encoding='", "encoding='<", "encoding='&", "encoding='UTF-8'", "standalone='no' ?>", "encoding=\"UTF-8\"?>", "version='1.0'?>", "version='1.0' x?>",
			"5", "-", ".", "='1'?>", "'", "\"?>", "/", "/>", ">", "<a/>", "&lt;", "? >", strings.Repeat("n", 65), strings.Repeat("é", 65) + "='1'?>",
		} {
			refuses(t, "<?xml "+ahead+behind, api.ErrMarkup, 1, 1)
			if behind[0] != '/' && behind[0] != '>' {
				at := placeAt("<a "+ahead+behind, len("<a "+ahead))
				refuses(t, "<a "+ahead+behind, api.ErrMarkup, at.Line, at.Col)
			}
		}
	}
}

// P2.1: instructions whose name is xml, in letters of any size, anywhere.
func TestInstructionsOfTheNameXml(t *testing.T) {
	for _, n := range []string{"xml", "XML", "Xml", "xMl", "xmL", "xML"} {
		for _, behind := range []string{"", "?", "?>", "?x", "&", "<", "+?>", " a?>", " version='1.0'?>"} {
			if n != "xml" || !strings.HasPrefix(behind, " ") {
				refuses(t, "<?"+n+behind, api.ErrMarkup, 1, 1)
			}
			refuses(t, "\n<?"+n+behind, api.ErrMarkup, 2, 1)
			refuses(t, "<a>é<?"+n+behind, api.ErrMarkup, 1, 5)
			refuses(t, "<?a?><?"+n+behind, api.ErrMarkup, 1, 6)
		}
	}
}

// P2.1: what may not stand in tags, instructions and comments, and where.
func TestWrongMarkup(t *testing.T) {
	for s, col := range map[string]int{
		// tags
		"<>": 2, "< a>": 2, "<1>": 2, "<=>": 2, "<&": 2, "<\"a\">": 2, "</>": 3, "</ a>": 3, "<//a>": 3, "</1>": 3, "<a<": 3, "<a<b>": 3, "</a<": 4, "</a/>": 4, "</a b='1'>": 5, "</a b>": 5,
		"<a//>": 4, "<a/ >": 4, "<a /b>": 5, "<a/": 4, "<a ?>": 4, "<a?>": 3, "<a=>": 3, "<a =>": 4, "<a 'b'>": 4, "<a b>": 5, "<a b/>": 5, "<a b c='1'>": 6, "<a b ='1' c>": 12, "<a 1='1'>": 4,
		"<a b= 1>": 7, "<a b=>": 6, "<a b=/>": 6, "<a b=&quot;1&quot;>": 6, "<a b=1'>": 6, "<a b=`1`>": 6, "<a b=='1'>": 6, "<a b='1''>": 9, "<a b='1'\"\">": 9, "<a b='1'1>": 9, "<a b='1'é='2'>": 9, "<a b='1'/c='2'>": 10, "<a b='1' /c>": 11,
		"<a b='<'>": 7, "<a b=\"x<\">": 8, "<a b='1\"><c/>": 10, "<a b=\"1'><c/>": 10, "<a b='x' c='y<z'>": 14, "<a é=\"€<": 8, "<a b='1'<": 9, "<a b<": 5, "<a b=<": 6,
		// the ends of documents
		"<": 2, "</": 3, "</a": 4, "</a ": 5, "<a": 3, "<a ": 4, "<a b": 5, "<a b ": 6, "<a b=": 6, "<a b= ": 7, "<a b='": 7, "<a b='1": 8, "<a b='1'": 9, "<a b='1' ": 10, "<a b='1' c": 11, "<a b='1' /": 11, "<a b='1\">": 10, "<a b=\"1'>": 10, "<é": 3,
		// instructions
		"<?": 3, "<?a": 4, "<?a?": 4, "<?a ": 5, "<?a b": 6, "<?a ?": 6, "<?a b?": 7, "<?a b>": 7, "<?a?b?>": 4, "<?a? >": 4, "<?a??>": 4, "<?a>": 4, "<?a/>": 4, "<?a<": 4, "<?a&lt; ?>": 4, "<? a?>": 3, "<??>": 3, "<?1?>": 3, "<?>": 3, "<?<": 3, "<?x": 4, "<?xm": 5, "<?xmlé": 7, "<?xml-": 7,
		// comments
		"<!--": 5, "<!-- ": 6, "<!-->": 6, "<!--->": 7, "<!---": 6, "<!----": 7, "<!--a-": 7, "<!--a--": 8, "<!--a->": 8, "<!-----": 5, "<!----->": 5, "<!--a--->": 6, "<!--a---": 6, "<!--a--b": 6, "<!--a-- >": 6, "<!--a-b--c-->": 8, "<!--é--é-->": 6, "<!----a-->": 5, "<!----<": 5,
		// sections
		"<![CDATA[": 10, "<![CDATA[]": 11, "<![CDATA[]]": 12, "<![CDATA[]>": 12, "<![CDATA[] ]>": 14, "<![CDATA[é]]": 13, "<![CDATA[]] >": 14,
		// other <!
		"<!": 1, "<!-": 1, "<!->": 1, "<!- -": 1, "<! -- -->": 1, "<![": 1, "<![CDATA": 1, "<![CDATA ": 1, "<![cdata[x]]>": 1, "<![CDATA [x]]>": 1, "<!D": 1, "<!DOCTYP": 1, "<!doctype a>": 1, "<!Doctype a>": 1, "<!DOC TYPE>": 1, "<! DOCTYPE>": 1, "<!ENTITY a 'b'>": 1, "<!>": 1, "<!a": 1,
		// texts
		"]]>": 1, "x]]>": 2, "x]]]>": 3, "]]]]>": 3, "]>]]>": 3, "é]]>": 2, "&lt;]]>": 5, "]]&gt;]]>": 7, "]]>&": 1, "]]><!DOCTYPE>": 1, "<a/>]]>": 5, "]]<a/>]]>": 7, "<!---->]]>": 8,
	} {
		refuses(t, s, api.ErrMarkup, 1, col)
		refuses(t, "<q>\né"+s, api.ErrMarkup, 2, 1+col)
		refuses(t, "<?q?>"+s, api.ErrMarkup, 1, 5+col)
	}
	refuses(t, "<a\n", api.ErrMarkup, 2, 1)
	refuses(t, "<!--\n\n", api.ErrMarkup, 3, 1)
	refuses(t, "<?a\r\nb\r", api.ErrMarkup, 3, 1)
	refuses(t, "<![CDATA[\rab", api.ErrMarkup, 2, 3)
	refuses(t, "<a b='\n", api.ErrMarkup, 2, 1)
}

// P2.1: the doctype's place, however it goes on.
func TestDoctypes(t *testing.T) {
	for _, s := range []string{"<!DOCTYPE", "<!DOCTYPE>", "<!DOCTYPEa>", "<!DOCTYPE a [<!ENTITY b 'c'>]>", "<!DOCTYPE &"} {
		refuses(t, s, api.ErrDoctype, 1, 1)
		refuses(t, "<?xml version='1.0'?>\n<!-- a -->"+s, api.ErrDoctype, 2, 11)
		refuses(t, "<a/>é"+s, api.ErrDoctype, 1, 6)
	}
}

// P2.1: of several faults, the first one as the document is read.
func TestFirstFaults(t *testing.T) {
	refuses(t, "& <!DOCTYPE a>", api.ErrRef, 1, 1)
	refuses(t, "<!DOCTYPE &>", api.ErrDoctype, 1, 1)
	refuses(t, "<a 1 b='&'>", api.ErrMarkup, 1, 4)
	refuses(t, "<a b='&' 1>", api.ErrRef, 1, 7)
	refuses(t, "<a b='&<'>", api.ErrRef, 1, 7)
	refuses(t, "<a b='<&'>", api.ErrMarkup, 1, 7)
	refuses(t, "x&]]>", api.ErrRef, 1, 2)
	refuses(t, "x]]>&", api.ErrMarkup, 1, 2)
	refuses(t, "<"+strings.Repeat("a", 65)+" &", api.ErrLong, 1, 2)
	refuses(t, "<a b=1 "+strings.Repeat("a", 65)+">", api.ErrMarkup, 1, 6)
	refuses(t, "<a b='1'"+strings.Repeat("a", 65)+"='2'>", api.ErrMarkup, 1, 9)
	refuses(t, "<!-- -- --><!DOCTYPE>", api.ErrMarkup, 1, 6)
	refuses(t, "<a><b c='&x;'><!DOCTYPE><!-- -- -->", api.ErrRef, 1, 10)
}
